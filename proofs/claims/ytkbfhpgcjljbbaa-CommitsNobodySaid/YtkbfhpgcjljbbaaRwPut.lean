/- The document's own functions on rows (layer 3), by contracts: Drop, Put. -/
import Derived.Test.YtkbfhpgcjljbbaaRwFew
import Derived.Deep.RegionHeldLaw
namespace Go.Proofs.Ytkbfhpgcjljbbaa
open Go.RowKit

def dropR (rs : List Rw) (key : ByteArray) : List Rw := if (fnd rs key).2 then rs.take (fnd rs key).1 ++ rs.drop ((fnd rs key).1 + 1) else rs
def putR (rs : List Rw) (r : Rw) : List Rw := rs.take (fnd rs r.1).1 ++ [r] ++ rs.drop ((fnd rs r.1).1 + if (fnd rs r.1).2 then 1 else 0)
set_option maxRecDepth 100000 in
set_option maxHeartbeats 4000000 in
theorem refDrop_any (v : Value) (rs : List Rw) (key : ByteArray) (w : World) (hv : RowsV w v rs) (hk : key.size ≤ maxLen) (hl : rs.length ≤ 1000) :
    Calls Try.prog 44 #[v, .string key] w fun ev w' => ∃ v', ev = .returned (.tuple #[v', .bool (fnd rs key).2]) ∧ RowsV w' v' (dropR rs key) ∧ Below w.heap.size w w' := by
  have hnot : ∀ (x : Bool) (w : World), (Op.unary .not (.bool x)).run Try.prog w = .ok (.bool (!x)) w := fun _ _ => rfl
  have V : Aside (RowsV w v rs ∧ key.size ≤ maxLen ∧ rs.length ≤ 1000) := ⟨hv, hk, hl⟩
  cases hth : (fnd rs key).2 with
  | false =>
    have H := Lib.hid hth
    clear hv hk hl hth
    go_enter Try.func44, Try.ntmps44
    go_wp2_with fail
    refine (refFind_any v rs key _ V.out.1 V.out.2.1).mono ?_
    rintro ev w1 ⟨rfl, hs⟩
    rw [H.out]
    have B : Aside (RowsV w1 v (dropR rs key) ∧ Below w.heap.size w w1) := ⟨by rw [show dropR rs key = rs by unfold dropR; rw [H.out]; rfl]; exact V.out.1.below hs, hs⟩
    clear hs
    go_wp2
    go_ret2
    exact ⟨_, rfl, B.out⟩
  | true =>
    have H := Lib.hid hth
    have hlt := (fnd_there rs key hth).1
    clear hth
    rcases hv.form with ⟨rfl, rfl⟩ | ⟨b, off, cap, rfl, hlc, hcm, -⟩
    · exact absurd hlt (by simp)
    obtain ⟨n, hn⟩ : ∃ n, (fnd rs key).1 = n := ⟨_, rfl⟩
    have D : Aside (dropR rs key = rs.take n ++ rs.drop (n + 1) ∧ (fnd rs key).1 = n) := ⟨by unfold dropR; rw [H.out, hn]; rfl, hn⟩
    rw [hn] at hlt
    unfold maxLen at hcm
    clear hv hk hn
    go_enter Try.func44, Try.ntmps44
    go_wp2_with fail
    refine (refFind_any _ rs key _ V.out.1 V.out.2.1).mono ?_
    rintro ev w1 ⟨rfl, hs⟩
    rw [H.out, D.out.2]
    have B : Aside (Below w.heap.size w w1) := hs
    have V1 := Lib.hid (V.out.1.below hs).drew
    clear hs
    go_wp2_with fail
    have i1 : (0 : Int) ≤ (n : Int) := by omega
    have i2 : (n : Int) ≤ (cap : Int) := by omega
    have i3 : (n : Int) + 1 ≤ (rs.length : Int) := by omega
    have i4 : (0 : Int) ≤ (n : Int) + 1 := by omega
    have i5 : IntKind.i64.wrap ((n : Int) + 1) = (n : Int) + 1 := Go.IntWalk.i64_in _ (by omega)
    have i6 : (n : Int) ≤ (rs.length : Int) := by omega
    have i7 : (rs.length : Int) ≤ (cap : Int) := by omega
    go_region_held_law (fun w' => RowsV w' (.slice (some ⟨b, off, none⟩) rs.length cap) rs)
      (first | assumption | exact V1.out | exact RowsV.alloc (by assumption) _ | exact RowsV.drew (by assumption))
      (first
        | (refine step_app (rs := []) (ss := rs.take n) rfl (.tmp 17) (.tmp 20) rfl w.heap.size rfl rfl ?qo ?qs ?ql ?qb ?_
           case qo => exact (OwnR.emptyAt w.heap.size _ _ rfl B.out.size).drew
           case qs => exact RowsV.takeV (k := n) (by assumption) (by omega)
           case ql => simp; have := V.out.2.2; omega
           case qb => simp; have := B.out.size; omega
           intro v2 w2 ho hg
           have hb2 := app_below (B.out.trans ((alloc_below0 w1 (.cells #[] 48)).mono B.out.size)).drew (OwnR.emptyAt w.heap.size _ w1 rfl B.out.size).drew (Nat.le_refl _) (by simp; have := B.out.size; omega) hg
           have O2 := Lib.hid ho
           have B2 := Lib.hid hb2
           have R2 := V.out.1.below hb2
           clear ho hg hb2)
        | (refine step_app (rs := [] ++ rs.take n) (ss := rs.drop (n + 1)) rfl (.tmp 21) (.tmp 25) rfl w.heap.size rfl rfl O2.out ?qs ?ql B2.out.size ?_
           case qs => exact RowsV.dropI (k := n + 1) (by assumption) (by omega)
           case ql => simp; have := V.out.2.2; omega
           intro v3 w3 ho hg
           have hb3 := app_below B2.out O2.out (Nat.le_refl _) B2.out.size hg
           have O3 := Lib.hid ho
           have B3 := Lib.hid hb3
           have R3 := V.out.1.below hb3
           clear ho hg hb3))
    go_wp2
    all_goals
      go_ret2
      refine ⟨_, rfl, ?_, B3.out⟩
      rw [D.out.1]
      exact O3.out.rows ((V.out.1.small.take n).append (V.out.1.small.drop (n + 1)))

theorem put_hold {n B : Nat} {w w' : World} {k x : ByteArray} {v : Value} {rs : List Rw} (h : Below n w w' ∧ n ≤ w'.heap.size ∧ w'.cell? ⟨B, 0, none⟩ = some (.string k) ∧ w'.cell? ⟨B, 1, none⟩ = some (.string x) ∧ RowsV w' v rs) (o : Obj) :
    Below n w (w'.alloc o) ∧ n ≤ (w'.alloc o).heap.size ∧ (w'.alloc o).cell? ⟨B, 0, none⟩ = some (.string k) ∧ (w'.alloc o).cell? ⟨B, 1, none⟩ = some (.string x) ∧ RowsV (w'.alloc o) v rs :=
  ⟨h.1.trans ((alloc_below0 w' o).mono h.2.1), by simp; omega, ((alloc_below0 w' o).cell (p := ⟨B, 0, none⟩) (lt_of_cell h.2.2.1)).trans h.2.2.1, ((alloc_below0 w' o).cell (p := ⟨B, 1, none⟩) (lt_of_cell h.2.2.2.1)).trans h.2.2.2.1, h.2.2.2.2.alloc o⟩
set_option maxRecDepth 100000 in
set_option maxHeartbeats 4000000 in
theorem refPut_some (b off cap : Nat) (rs : List Rw) (k x : ByteArray) (w : World) (hv : RowsV w (.slice (some ⟨b, off, none⟩) rs.length cap) rs) (hlc : rs.length ≤ cap) (_hcm : cap ≤ maxLen) (hk : k.size ≤ maxLen) (hx : x.size ≤ maxLen) (hl : rs.length ≤ 1000) :
    Calls Try.prog 45 #[.slice (some ⟨b, off, none⟩) rs.length cap, .agg #[.string k, .string x]] w fun ev w' => ∃ v', ev = .returned (.tuple #[v', .bool (fnd rs k).2]) ∧ RowsV w' v' (putR rs (k, x)) ∧ Below w.heap.size w w' := by
  have hv0 := hv.alloc (.cells #[.string k, .string x] 48)
  have V : Aside (RowsV w (.slice (some ⟨b, off, none⟩) rs.length cap) rs ∧ k.size ≤ maxLen ∧ x.size ≤ maxLen ∧ rs.length ≤ 1000 ∧ RowsV (w.alloc (.cells #[.string k, .string x] 48)) (.slice (some ⟨b, off, none⟩) rs.length cap) rs) := ⟨hv, hk, hx, hl, hv0⟩
  obtain ⟨n, hn⟩ : ∃ n, (fnd rs k).1 = n := ⟨_, rfl⟩
  obtain ⟨t, ht⟩ : ∃ t, (fnd rs k).2 = t := ⟨_, rfl⟩
  have hnl : n ≤ rs.length := by rw [← hn]; exact fnd_le rs k
  have htl : t = true → n < rs.length := fun e => by rw [← hn]; exact (fnd_there rs k (by rw [ht]; exact e)).1
  have D : Aside (putR rs (k, x) = rs.take n ++ [(k, x)] ++ rs.drop (n + if t then 1 else 0) ∧ (fnd rs k).1 = n ∧ (fnd rs k).2 = t) := ⟨by unfold putR; simp only [hn, ht], hn, ht⟩
  have T := Lib.hid htl
  rw [ht]
  unfold maxLen at _hcm
  clear hv hk hx hn ht hv0 htl
  have c00 : Aside ((w.alloc (.cells #[.string k, .string x] 48)).cell? ⟨w.heap.size, 0, none⟩ = some (.string k) ∧ (w.alloc (.cells #[.string k, .string x] 48)).cell? ⟨w.heap.size, 1, none⟩ = some (.string x)) := ⟨by rw [World.cell?_alloc_at _ _ _ _ rfl]; rfl, by rw [World.cell?_alloc_at _ _ _ _ rfl]; rfl⟩
  have bz : Aside (Below w.heap.size w (w.alloc (.cells #[.string k, .string x] 48))) := alloc_below0 _ _
  go_enter Try.func45, Try.ntmps45
  go_wp2_with fail
  have hN : Aside ((w.alloc (.cells #[.string k, .string x] 48)).heap.size = w.heap.size + 1) := by show _ = _; simp
  generalize w.alloc (.cells #[.string k, .string x] 48) = w0 at *
  refine (refFind_any _ rs k _ V.out.2.2.2.2 V.out.2.1).mono ?_
  rintro ev w1 ⟨rfl, hs⟩
  rw [D.out.2.1, D.out.2.2]
  have c0 := (hs.cell (p := ⟨w.heap.size, 0, none⟩) (lt_of_cell c00.out.1)).trans c00.out.1
  have c1 := (hs.cell (p := ⟨w.heap.size, 1, none⟩) (lt_of_cell c00.out.2)).trans c00.out.2
  have HS : Aside (∀ w2, Below w0.heap.size w0 w2 → Below w0.heap.size w0 w2 ∧ w0.heap.size ≤ w2.heap.size ∧ w2.cell? ⟨w.heap.size, 0, none⟩ = some (.string k) ∧ w2.cell? ⟨w.heap.size, 1, none⟩ = some (.string x) ∧ RowsV w2 (.slice (some ⟨b, off, none⟩) rs.length cap) rs) := fun w2 hs =>
    ⟨hs, hs.size, (hs.cell (p := ⟨w.heap.size, 0, none⟩) (lt_of_cell c00.out.1)).trans c00.out.1, (hs.cell (p := ⟨w.heap.size, 1, none⟩) (lt_of_cell c00.out.2)).trans c00.out.2, V.out.2.2.2.2.below hs⟩
  have H1 := Lib.hid (HS.out _ hs)
  have H1d := HS.out _ hs.drew
  clear hs
  have i1 : (0 : Int) ≤ (n : Int) := by omega
  have i2 : (n : Int) ≤ (cap : Int) := by omega
  clear c0 c1
  go_wp2_with fail
  go_region_held_law (fun w' => Below w0.heap.size w0 w' ∧ w0.heap.size ≤ w'.heap.size ∧ w'.cell? ⟨w.heap.size, 0, none⟩ = some (.string k) ∧ w'.cell? ⟨w.heap.size, 1, none⟩ = some (.string x) ∧ RowsV w' (.slice (some ⟨b, off, none⟩) rs.length cap) rs)
    (first | assumption | exact put_hold (by assumption) _)
    (first
      | (refine step_app (rs := []) (ss := rs.take n) rfl (.tmp 16) (.tmp 19) rfl w0.heap.size rfl rfl ?qo ?qs ?ql ?qb ?_
         case qo => exact (OwnR.emptyAt w0.heap.size _ w1 rfl H1.out.2.1).drew
         case qs => exact RowsV.takeV (k := n) (‹Below w0.heap.size w0 _ ∧ _ ∧ _ ∧ _ ∧ _›.2.2.2.2) (by omega)
         case ql => simp; have := V.out.2.2.2.1; omega
         case qb => exact ‹Below w0.heap.size w0 _ ∧ _ ∧ _ ∧ _ ∧ _›.2.1
         intro v2 w2 ho hg
         have hb2 := app_below (‹Below w0.heap.size w0 _ ∧ _ ∧ _ ∧ _ ∧ _›.1) (OwnR.emptyAt w0.heap.size _ w1 rfl H1.out.2.1).drew (Nat.le_refl _) (‹Below w0.heap.size w0 _ ∧ _ ∧ _ ∧ _ ∧ _›.2.1) hg
         have p2 := HS.out _ hb2
         have O2 := Lib.hid ho
         clear ho hg hb2)
      | (refine step_app (rs := []) (ss := rs.take n) rfl (.tmp 16) (.tmp 19) rfl w0.heap.size rfl rfl ?qo ?qs ?ql ?qb ?_
         case qo => exact ((OwnR.emptyAt w0.heap.size _ w1 rfl H1.out.2.1).alloc _).drew
         case qs => exact RowsV.takeV (k := n) (‹Below w0.heap.size w0 _ ∧ _ ∧ _ ∧ _ ∧ _›.2.2.2.2) (by omega)
         case ql => simp; have := V.out.2.2.2.1; omega
         case qb => exact ‹Below w0.heap.size w0 _ ∧ _ ∧ _ ∧ _ ∧ _›.2.1
         intro v2 w2 ho hg
         have hb2 := app_below (‹Below w0.heap.size w0 _ ∧ _ ∧ _ ∧ _ ∧ _›.1) ((OwnR.emptyAt w0.heap.size _ w1 rfl H1.out.2.1).alloc _).drew (Nat.le_refl _) (‹Below w0.heap.size w0 _ ∧ _ ∧ _ ∧ _ ∧ _›.2.1) hg
         have p2 := HS.out _ hb2
         have O2 := Lib.hid ho
         have R2 := Lib.hid (((RowsV.one (w1.alloc (.cells #[] 48)) (w1.heap.size + 1) (by simp) k x V.out.2.1 V.out.2.2.1).drew).grown hg (show some (w1.heap.size + 1) ≠ some w1.heap.size by simp))
         clear ho hg hb2)
      | (refine step_app (rs := []) (ss := rs.take n) rfl (.tmp 16) (.tmp 19) rfl w0.heap.size rfl rfl ?qo ?qs ?ql ?qb ?_
         case qo => exact (OwnR.emptyAt w0.heap.size (w1.heap.size + 1) (w1.alloc _) (by simp) (by have := H1.out.2.1; omega)).drew
         case qs => exact RowsV.takeV (k := n) (‹Below w0.heap.size w0 _ ∧ _ ∧ _ ∧ _ ∧ _›.2.2.2.2) (by omega)
         case ql => simp; have := V.out.2.2.2.1; omega
         case qb => exact ‹Below w0.heap.size w0 _ ∧ _ ∧ _ ∧ _ ∧ _›.2.1
         intro v2 w2 ho hg
         have hb2 := app_below (‹Below w0.heap.size w0 _ ∧ _ ∧ _ ∧ _ ∧ _›.1) (OwnR.emptyAt w0.heap.size (w1.heap.size + 1) (w1.alloc (.cells #[.string k, .string x] 48)) (by simp) (by have := H1.out.2.1; omega)).drew (Nat.le_refl _) (‹Below w0.heap.size w0 _ ∧ _ ∧ _ ∧ _ ∧ _›.2.1) hg
         have p2 := HS.out _ hb2
         have O2 := Lib.hid ho
         have R2 := Lib.hid ((((RowsV.one w1 w1.heap.size rfl k x V.out.2.1 V.out.2.2.1).alloc (.cells #[] 48)).drew).grown hg (show some w1.heap.size ≠ some (w1.heap.size + 1) by simp))
         clear ho hg hb2)
      | (refine step_app (rs := [] ++ rs.take n) (ss := [(k, x)]) rfl (.tmp 20) (.tmp 22) rfl w0.heap.size rfl rfl (O2.out.alloc _) ?qs ?ql ?qb ?_
         case qs => exact RowsV.one w2 _ rfl k x V.out.2.1 V.out.2.2.1
         case ql => simp; have := V.out.2.2.2.1; omega
         case qb => exact ‹Below w0.heap.size w0 _ ∧ _ ∧ _ ∧ _ ∧ _›.2.1
         intro v3 w3 ho hg
         have p3 := HS.out _ (app_below (‹Below w0.heap.size w0 _ ∧ _ ∧ _ ∧ _ ∧ _›.1) (O2.out.alloc _) (Nat.le_refl _) (‹Below w0.heap.size w0 _ ∧ _ ∧ _ ∧ _ ∧ _›.2.1) hg)
         have O3 := Lib.hid ho
         clear ho hg)
      | (refine step_app (rs := [] ++ rs.take n) (ss := [(k, x)]) rfl (.tmp 20) (.tmp 22) rfl w0.heap.size rfl rfl O2.out ?qs ?ql ?qb ?_
         case qs => exact R2.out
         case ql => simp; have := V.out.2.2.2.1; omega
         case qb => exact ‹Below w0.heap.size w0 _ ∧ _ ∧ _ ∧ _ ∧ _›.2.1
         intro v3 w3 ho hg
         have p3 := HS.out _ (app_below (‹Below w0.heap.size w0 _ ∧ _ ∧ _ ∧ _ ∧ _›.1) O2.out (Nat.le_refl _) (‹Below w0.heap.size w0 _ ∧ _ ∧ _ ∧ _ ∧ _›.2.1) hg)
         have O3 := Lib.hid ho
         clear ho hg))
  all_goals
    have P3 := Lib.hid p3
    cases t with
    | false =>
      clear T
      go_wp2_with (at_builtin; go_must (refine wpList_app rfl (.tmp 27) (.tmp 30) rfl w0.heap.size rfl rfl O3.out (RowsV.dropI (k := n) P3.out.2.2.2.2 hnl) (by simp; have := V.out.2.2.2.1; omega) P3.out.2.1 ?_))
      all_goals
        intro v4 w4 ho hg
        have F : Aside (RowsV w4 v4 (putR rs (k, x)) ∧ Below w.heap.size w w4) :=
          ⟨by rw [show putR rs (k, x) = rs.take n ++ (k, x) :: rs.drop n by rw [D.out.1]; simp]; exact ho.rows ((V.out.1.small.take n).append (Small.cons V.out.2.1 V.out.2.2.1 (V.out.1.small.drop n))),
            bz.out.trans ((app_below P3.out.1 O3.out (Nat.le_refl _) P3.out.2.1 hg).mono bz.out.size)⟩
        clear ho hg
        go_wp2
        go_ret2
        exact ⟨_, rfl, F.out⟩
    | true =>
      have hlt := T.out rfl
      clear T
      have i3 : (n : Int) + 1 ≤ (rs.length : Int) := by omega
      have i4 : (0 : Int) ≤ (n : Int) + 1 := by omega
      go_wp2_with (at_builtin; go_must (refine wpList_app rfl (.tmp 27) (.tmp 30) rfl w0.heap.size rfl rfl O3.out (RowsV.dropI (k := n + 1) P3.out.2.2.2.2 hlt) (by simp; have := V.out.2.2.2.1; omega) P3.out.2.1 ?_))
      all_goals
        intro v4 w4 ho hg
        have F : Aside (RowsV w4 v4 (putR rs (k, x)) ∧ Below w.heap.size w w4) :=
          ⟨by rw [show putR rs (k, x) = rs.take n ++ (k, x) :: rs.drop (n + 1) by rw [D.out.1]; simp]; exact ho.rows ((V.out.1.small.take n).append (Small.cons V.out.2.1 V.out.2.2.1 (V.out.1.small.drop (n + 1)))),
            bz.out.trans ((app_below P3.out.1 O3.out (Nat.le_refl _) P3.out.2.1 hg).mono bz.out.size)⟩
        clear ho hg
        go_wp2
        go_ret2
        exact ⟨_, rfl, F.out⟩
set_option maxRecDepth 100000 in
set_option maxHeartbeats 4000000 in
theorem refPut_nil (k x : ByteArray) (w : World) (hk : k.size ≤ maxLen) (hx : x.size ≤ maxLen) :
    Calls Try.prog 45 #[.slice none 0 0, .agg #[.string k, .string x]] w fun ev w' => ∃ v', ev = .returned (.tuple #[v', .bool (fnd [] k).2]) ∧ RowsV w' v' (putR [] (k, x)) ∧ Below w.heap.size w w' := by
  have hv0 := RowsV.nil (w.alloc (.cells #[.string k, .string x] 48))
  have V : Aside (RowsV w (.slice none 0 0) [] ∧ k.size ≤ maxLen ∧ x.size ≤ maxLen ∧ (0 : Nat) ≤ 1000 ∧ RowsV (w.alloc (.cells #[.string k, .string x] 48)) (.slice none 0 0) []) := ⟨RowsV.nil w, hk, hx, by omega, hv0⟩
  clear hk hx hv0
  have c00 : Aside ((w.alloc (.cells #[.string k, .string x] 48)).cell? ⟨w.heap.size, 0, none⟩ = some (.string k) ∧ (w.alloc (.cells #[.string k, .string x] 48)).cell? ⟨w.heap.size, 1, none⟩ = some (.string x)) := ⟨by rw [World.cell?_alloc_at _ _ _ _ rfl]; rfl, by rw [World.cell?_alloc_at _ _ _ _ rfl]; rfl⟩
  have bz : Aside (Below w.heap.size w (w.alloc (.cells #[.string k, .string x] 48))) := alloc_below0 _ _
  go_enter Try.func45, Try.ntmps45
  go_wp2_with fail
  have hN : Aside ((w.alloc (.cells #[.string k, .string x] 48)).heap.size = w.heap.size + 1) := by show _ = _; simp
  generalize w.alloc (.cells #[.string k, .string x] 48) = w0 at *
  refine (refFind_any _ [] k _ V.out.2.2.2.2 V.out.2.1).mono ?_
  rintro ev w1 ⟨rfl, hs⟩
  have z1 : ((fnd [] k).1 : Int) = 0 := rfl
  have z2 : (fnd [] k).2 = false := rfl
  rw [z1, z2]
  clear z1 z2
  have c0 := (hs.cell (p := ⟨w.heap.size, 0, none⟩) (lt_of_cell c00.out.1)).trans c00.out.1
  have c1 := (hs.cell (p := ⟨w.heap.size, 1, none⟩) (lt_of_cell c00.out.2)).trans c00.out.2
  have HS : Aside (∀ w2, Below w0.heap.size w0 w2 → Below w0.heap.size w0 w2 ∧ w0.heap.size ≤ w2.heap.size ∧ w2.cell? ⟨w.heap.size, 0, none⟩ = some (.string k) ∧ w2.cell? ⟨w.heap.size, 1, none⟩ = some (.string x) ∧ RowsV w2 (.slice none 0 0) []) := fun w2 hs =>
    ⟨hs, hs.size, (hs.cell (p := ⟨w.heap.size, 0, none⟩) (lt_of_cell c00.out.1)).trans c00.out.1, (hs.cell (p := ⟨w.heap.size, 1, none⟩) (lt_of_cell c00.out.2)).trans c00.out.2, V.out.2.2.2.2.below hs⟩
  have H1 := Lib.hid (HS.out _ hs)
  have H1d := HS.out _ hs.drew
  clear hs
  clear c0 c1
  go_wp2_with fail
  go_region_held_law (fun w' => Below w0.heap.size w0 w' ∧ w0.heap.size ≤ w'.heap.size ∧ w'.cell? ⟨w.heap.size, 0, none⟩ = some (.string k) ∧ w'.cell? ⟨w.heap.size, 1, none⟩ = some (.string x) ∧ RowsV w' (.slice none 0 0) [])
    (first | assumption | exact put_hold (by assumption) _)
    (first
      | (refine step_app (rs := []) (ss := []) rfl (.tmp 16) (.tmp 19) rfl w0.heap.size rfl rfl ?qo ?qs ?ql ?qb ?_
         case qo => exact (OwnR.emptyAt w0.heap.size _ w1 rfl H1.out.2.1).drew
         case qs => exact RowsV.nil _
         case ql => simp
         case qb => exact ‹Below w0.heap.size w0 _ ∧ _ ∧ _ ∧ _ ∧ _›.2.1
         intro v2 w2 ho hg
         have hb2 := app_below (‹Below w0.heap.size w0 _ ∧ _ ∧ _ ∧ _ ∧ _›.1) (OwnR.emptyAt w0.heap.size _ w1 rfl H1.out.2.1).drew (Nat.le_refl _) (‹Below w0.heap.size w0 _ ∧ _ ∧ _ ∧ _ ∧ _›.2.1) hg
         have p2 := HS.out _ hb2
         have O2 := Lib.hid ho
         clear ho hg hb2)
      | (refine step_app (rs := []) (ss := []) rfl (.tmp 16) (.tmp 19) rfl w0.heap.size rfl rfl ?qo ?qs ?ql ?qb ?_
         case qo => exact ((OwnR.emptyAt w0.heap.size _ w1 rfl H1.out.2.1).alloc _).drew
         case qs => exact RowsV.nil _
         case ql => simp
         case qb => exact ‹Below w0.heap.size w0 _ ∧ _ ∧ _ ∧ _ ∧ _›.2.1
         intro v2 w2 ho hg
         have hb2 := app_below (‹Below w0.heap.size w0 _ ∧ _ ∧ _ ∧ _ ∧ _›.1) ((OwnR.emptyAt w0.heap.size _ w1 rfl H1.out.2.1).alloc _).drew (Nat.le_refl _) (‹Below w0.heap.size w0 _ ∧ _ ∧ _ ∧ _ ∧ _›.2.1) hg
         have p2 := HS.out _ hb2
         have O2 := Lib.hid ho
         have R2 := Lib.hid (((RowsV.one (w1.alloc (.cells #[] 48)) (w1.heap.size + 1) (by simp) k x V.out.2.1 V.out.2.2.1).drew).grown hg (show some (w1.heap.size + 1) ≠ some w1.heap.size by simp))
         clear ho hg hb2)
      | (refine step_app (rs := []) (ss := []) rfl (.tmp 16) (.tmp 19) rfl w0.heap.size rfl rfl ?qo ?qs ?ql ?qb ?_
         case qo => exact (OwnR.emptyAt w0.heap.size (w1.heap.size + 1) (w1.alloc _) (by simp) (by have := H1.out.2.1; omega)).drew
         case qs => exact RowsV.nil _
         case ql => simp
         case qb => exact ‹Below w0.heap.size w0 _ ∧ _ ∧ _ ∧ _ ∧ _›.2.1
         intro v2 w2 ho hg
         have hb2 := app_below (‹Below w0.heap.size w0 _ ∧ _ ∧ _ ∧ _ ∧ _›.1) (OwnR.emptyAt w0.heap.size (w1.heap.size + 1) (w1.alloc (.cells #[.string k, .string x] 48)) (by simp) (by have := H1.out.2.1; omega)).drew (Nat.le_refl _) (‹Below w0.heap.size w0 _ ∧ _ ∧ _ ∧ _ ∧ _›.2.1) hg
         have p2 := HS.out _ hb2
         have O2 := Lib.hid ho
         have R2 := Lib.hid ((((RowsV.one w1 w1.heap.size rfl k x V.out.2.1 V.out.2.2.1).alloc (.cells #[] 48)).drew).grown hg (show some w1.heap.size ≠ some (w1.heap.size + 1) by simp))
         clear ho hg hb2)
      | (refine step_app (rs := [] ++ []) (ss := [(k, x)]) rfl (.tmp 20) (.tmp 22) rfl w0.heap.size rfl rfl (O2.out.alloc _) ?qs ?ql ?qb ?_
         case qs => exact RowsV.one w2 _ rfl k x V.out.2.1 V.out.2.2.1
         case ql => simp
         case qb => exact ‹Below w0.heap.size w0 _ ∧ _ ∧ _ ∧ _ ∧ _›.2.1
         intro v3 w3 ho hg
         have p3 := HS.out _ (app_below (‹Below w0.heap.size w0 _ ∧ _ ∧ _ ∧ _ ∧ _›.1) (O2.out.alloc _) (Nat.le_refl _) (‹Below w0.heap.size w0 _ ∧ _ ∧ _ ∧ _ ∧ _›.2.1) hg)
         have O3 := Lib.hid ho
         clear ho hg)
      | (refine step_app (rs := [] ++ []) (ss := [(k, x)]) rfl (.tmp 20) (.tmp 22) rfl w0.heap.size rfl rfl O2.out ?qs ?ql ?qb ?_
         case qs => exact R2.out
         case ql => simp
         case qb => exact ‹Below w0.heap.size w0 _ ∧ _ ∧ _ ∧ _ ∧ _›.2.1
         intro v3 w3 ho hg
         have p3 := HS.out _ (app_below (‹Below w0.heap.size w0 _ ∧ _ ∧ _ ∧ _ ∧ _›.1) O2.out (Nat.le_refl _) (‹Below w0.heap.size w0 _ ∧ _ ∧ _ ∧ _ ∧ _›.2.1) hg)
         have O3 := Lib.hid ho
         clear ho hg))
  all_goals
    have P3 := Lib.hid p3
    go_wp2_with (at_builtin; go_must (refine wpList_app rfl (.tmp 27) (.tmp 30) rfl w0.heap.size rfl rfl O3.out (RowsV.nil _) (by simp) P3.out.2.1 ?_))
    intro v4 w4 ho hg
    have F : Aside (RowsV w4 v4 (putR [] (k, x)) ∧ Below w.heap.size w w4) :=
      ⟨ho.rows (Small.cons V.out.2.1 V.out.2.2.1 Small.nil), bz.out.trans ((app_below P3.out.1 O3.out (Nat.le_refl _) P3.out.2.1 hg).mono bz.out.size)⟩
    clear ho hg
    go_wp2
    go_ret2
    exact ⟨_, rfl, F.out⟩
theorem refPut_any (v : Value) (rs : List Rw) (k x : ByteArray) (w : World) (hv : RowsV w v rs) (hk : k.size ≤ maxLen) (hx : x.size ≤ maxLen) (hl : rs.length ≤ 1000) :
    Calls Try.prog 45 #[v, .agg #[.string k, .string x]] w fun ev w' => ∃ v', ev = .returned (.tuple #[v', .bool (fnd rs k).2]) ∧ RowsV w' v' (putR rs (k, x)) ∧ Below w.heap.size w w' := by
  rcases hv.form with ⟨rfl, rfl⟩ | ⟨b, off, cap, rfl, hlc, hcm, -⟩
  · exact refPut_nil k x w hk hx
  · exact refPut_some b off cap rs k x w hv hlc hcm hk hx hl
end Go.Proofs.Ytkbfhpgcjljbbaa
