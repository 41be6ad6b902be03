/- The document's own functions on rows (layer 3), by contracts: Take. -/
import Derived.Test.YtaaikmompiejdaaRwHalve
namespace Go.Proofs.Ytaaikmompiejdaa
open Go.RowKit

/-- is a row's key in the span? -/
def inR (low high : ByteArray) (unb : Bool) (r : Rw) : Bool := inn low.data.toList high.data.toList unb r.1.data.toList
/-- those of rows that are in a span, rising or falling, with no limit; and with one -/
def accR (low high : ByteArray) (unb rev : Bool) (rs : List Rw) : List Rw := if rev then (rs.filter (inR low high unb)).reverse else rs.filter (inR low high unb)
def takeR (low high : ByteArray) (unb rev : Bool) (limit : Int) (rs : List Rw) : List Rw := if 1 ≤ limit then (accR low high unb rev rs).take limit.toNat else accR low high unb rev rs
theorem accR_small {low high : ByteArray} {unb rev : Bool} {rs : List Rw} (h : Small rs) : Small (accR low high unb rev rs) := by
  unfold accR
  split
  · exact (h.filter _).reverse
  · exact h.filter _
theorem accR_len (low high : ByteArray) (unb rev : Bool) (rs : List Rw) : (accR low high unb rev rs).length ≤ rs.length := by
  unfold accR
  split
  · rw [List.length_reverse]; exact List.length_filter_le _ _
  · exact List.length_filter_le _ _
theorem accR_no {low high : ByteArray} {unb rev : Bool} {rs : List Rw} {k : Nat} (hk : k < rs.length) (h : inR low high unb (rs.getD k r0) = false) : accR low high unb rev (rs.take (k + 1)) = accR low high unb rev (rs.take k) := by
  have e : (rs.take (k + 1)).filter (inR low high unb) = (rs.take k).filter (inR low high unb) := by
    rw [take_at hk, List.filter_append, List.filter_cons, if_neg (by rw [h]; simp), List.filter_nil, List.append_nil]
  unfold accR
  rw [e]
theorem accR_up {low high : ByteArray} {unb : Bool} {rs : List Rw} {k : Nat} (hk : k < rs.length) (h : inR low high unb (rs.getD k r0) = true) : accR low high unb false (rs.take (k + 1)) = accR low high unb false (rs.take k) ++ [rs.getD k r0] := by
  unfold accR
  rw [take_at hk, List.filter_append, List.filter_cons, if_pos h, List.filter_nil]
  rfl
theorem accR_down {low high : ByteArray} {unb : Bool} {rs : List Rw} {k : Nat} (hk : k < rs.length) (h : inR low high unb (rs.getD k r0) = true) : accR low high unb true (rs.take (k + 1)) = [rs.getD k r0] ++ accR low high unb true (rs.take k) := by
  unfold accR
  rw [take_at hk, List.filter_append, List.filter_cons, if_pos h, List.filter_nil]
  show (List.filter _ _ ++ [_]).reverse = _
  rw [List.reverse_append]
  rfl
set_option maxRecDepth 100000 in
set_option maxHeartbeats 4000000 in
theorem refTake_some (b off cap : Nat) (rs : List Rw) (low high : ByteArray) (unb rev : Bool) (limit : Int) (w : World) (hv : RowsV w (.slice (some ⟨b, off, none⟩) rs.length cap) rs) (_hlc : rs.length ≤ cap) (_hcm : cap ≤ maxLen)
    (hlo : low.size ≤ maxLen) (hhi : high.size ≤ maxLen) (hl : rs.length ≤ 1000) (hli : -9223372036854775808 ≤ limit ∧ limit ≤ 9223372036854775807) :
    Calls Try.prog 33 #[.slice (some ⟨b, off, none⟩) rs.length cap, .string low, .string high, .bool unb, .int .i64 limit, .bool rev] w fun ev w' => ∃ v', ev = .returned v' ∧ RowsV w' v' (takeR low high unb rev limit rs) ∧ Below w.heap.size w w' := by
  have hnot : ∀ (x : Bool) (w : World), (Op.unary .not (.bool x)).run Try.prog w = .ok (.bool (!x)) w := fun _ _ => rfl
  have hc := hv.form
  rcases hc with ⟨h0, -⟩ | ⟨b', off', cap', e0, -, -, hc⟩
  · cases h0
  obtain ⟨⟨rfl, rfl⟩, rfl⟩ : (b = b' ∧ off = off') ∧ cap = cap' := by simpa using e0
  clear e0
  have C : Aside (∀ i, i < rs.length → w.cell? ⟨b, off + i * 2, none⟩ = some (.string (rs.getD i r0).1) ∧ w.cell? ⟨b, off + i * 2 + 1, none⟩ = some (.string (rs.getD i r0).2)) := hc
  have V : Aside (RowsV w (.slice (some ⟨b, off, none⟩) rs.length cap) rs ∧ low.size ≤ maxLen ∧ high.size ≤ maxLen ∧ rs.length ≤ 1000) := ⟨hv, hlo, hhi, hl⟩
  unfold maxLen at _hcm
  clear hv hc hlo hhi
  go_enter Try.func33, Try.ntmps33
  go_wp2
  go_loopg [13, 14] rs.length (fun m va i wr => ∃ k : Nat, k + m = rs.length ∧ i = .int .i64 k ∧ OwnR w.heap.size wr va (accR low high unb rev (rs.take k)) ∧ Below w.heap.size w wr)
  case atStart => exact ⟨0, by omega, rfl, by cases rev <;> exact OwnR.nil _ _, Below.refl _ _⟩
  case round =>
    obtain ⟨k, hk, rfl, ho, hB⟩ := hrel
    have A : Aside (OwnR w.heap.size wr _ (accR low high unb rev (rs.take k)) ∧ Below w.heap.size w wr ∧ k + gk = rs.length) := ⟨ho, hB, hk⟩
    clear ho hB
    by_cases hlt : k < rs.length
    · have hc0 : wr.cell? ⟨b, off + k * 2, none⟩ = some (.string (rs.getD k r0).1) := (A.out.2.1.cell (p := ⟨b, off + k * 2, none⟩) (lt_of_cell (C.out k hlt).1)).trans (C.out k hlt).1
      have hc1 : wr.cell? ⟨b, off + k * 2 + 1, none⟩ = some (.string (rs.getD k r0).2) := (A.out.2.1.cell (p := ⟨b, off + k * 2 + 1, none⟩) (lt_of_cell (C.out k hlt).2)).trans (C.out k hlt).2
      have M : Aside ((rs.getD k r0).1.size ≤ maxLen ∧ (rs.getD k r0).2.size ≤ maxLen) := V.out.1.small.at k
      have Tn : Aside (inR low high unb (rs.getD k r0) = false → accR low high unb rev (rs.take (k + 1)) = accR low high unb rev (rs.take k)) := accR_no hlt
      have Tu : Aside (inR low high unb (rs.getD k r0) = true → accR low high unb false (rs.take (k + 1)) = accR low high unb false (rs.take k) ++ [rs.getD k r0]) := accR_up hlt
      have Td : Aside (inR low high unb (rs.getD k r0) = true → accR low high unb true (rs.take (k + 1)) = [rs.getD k r0] ++ accR low high unb true (rs.take k)) := accR_down hlt
      obtain ⟨⟨x, y⟩, hxy⟩ : ∃ r, rs.getD k r0 = r := ⟨_, rfl⟩
      rw [hxy] at hc0 hc1 M Tn Tu Td
      clear hxy
      simp only at hc0 hc1
      cases hi : inR low high unb (x, y) with
      | false =>
        have H := Lib.hid hi
        have H' := Lib.hid (show inn low.data.toList high.data.toList unb x.data.toList = false from hi)
        clear hi
        go_wp2_with fail
        refine (refIn_any low high x unb _ V.out.2.1 V.out.2.2.1 M.out.1).mono ?_
        rintro ev w2 ⟨rfl, hs⟩
        rw [H'.out]
        have F : Aside (OwnR w.heap.size w2 _ (accR low high unb rev (rs.take (k + 1))) ∧ Below w.heap.size w w2) := ⟨by rw [Tn.out H.out]; exact A.out.1.below hs, A.out.2.1.trans (hs.mono A.out.2.1.size)⟩
        clear hs hc0 hc1
        go_wp2
        go_roundg (rs.length - (k + 1))
        case measure => have := A.out.2.2; omega
        case rel => exact ⟨k + 1, by omega, by go_num, F.out⟩
      | true =>
        have H := Lib.hid hi
        have H' := Lib.hid (show inn low.data.toList high.data.toList unb x.data.toList = true from hi)
        clear hi
        go_wp2_with fail
        refine (refIn_any low high x unb _ V.out.2.1 V.out.2.2.1 M.out.1).mono ?_
        rintro ev w2 ⟨rfl, hs⟩
        rw [H'.out]
        have F : Aside (OwnR w.heap.size w2 _ (accR low high unb rev (rs.take k)) ∧ Below w.heap.size w w2) := ⟨A.out.1.below hs, A.out.2.1.trans (hs.mono A.out.2.1.size)⟩
        have hd0 := (hs.cell (p := ⟨b, off + k * 2, none⟩) (lt_of_cell hc0)).trans hc0
        have hd1 := (hs.cell (p := ⟨b, off + k * 2 + 1, none⟩) (lt_of_cell hc1)).trans hc1
        clear hs hc0 hc1
        have hkl := accR_len low high unb rev (rs.take k)
        rw [List.length_take] at hkl
        have K : Aside ((accR low high unb rev (rs.take k)).length ≤ 1000) := by show _ ≤ _; have := V.out.2.2.2; omega
        clear hkl
        cases rev with
        | false =>
          go_wp2_with (at_builtin; go_must (refine wpList_app rfl (.tmp 39) (.tmp 44) rfl w.heap.size rfl rfl (F.out.1.alloc _) (RowsV.one w2 _ rfl x y M.out.1 M.out.2) (by simp; have := K.out; omega) (by simp; have := F.out.2.size; omega) ?_))
          intro v3 w3 ho hg
          have G : Aside (OwnR w.heap.size w3 v3 (accR low high unb false (rs.take (k + 1))) ∧ Below w.heap.size w w3) := ⟨by rw [Tu.out H.out]; exact ho, app_below (F.out.2.trans ((alloc_below0 w2 (.cells #[.string x, .string y] 30)).mono F.out.2.size)) (F.out.1.alloc _) (Nat.le_refl _) (by simp; have := F.out.2.size; omega) hg⟩
          clear ho hg
          go_wp2
          go_roundg (rs.length - (k + 1))
          case measure => have := A.out.2.2; omega
          case rel => exact ⟨k + 1, by omega, by go_num, G.out⟩
        | true =>
          go_wp2_with (at_builtin; go_must (refine wpList_app rfl (.tmp 36) (.tmp 37) rfl w.heap.size rfl rfl (OwnR.oneAt w.heap.size _ w2 rfl F.out.2.size x y) ((F.out.1.alloc _).rows (accR_small (V.out.1.small.take k))) (by simp; have := K.out; omega) (by simp; have := F.out.2.size; omega) ?_))
          intro v3 w3 ho hg
          have G : Aside (OwnR w.heap.size w3 v3 (accR low high unb true (rs.take (k + 1))) ∧ Below w.heap.size w w3) := ⟨by rw [Td.out H.out]; exact ho, app_below (F.out.2.trans ((alloc_below0 w2 (.cells #[.string x, .string y] 30)).mono F.out.2.size)) (OwnR.oneAt w.heap.size _ w2 rfl F.out.2.size x y) (Nat.le_refl _) (by simp; have := F.out.2.size; omega) hg⟩
          clear ho hg
          go_wp2
          go_roundg (rs.length - (k + 1))
          case measure => have := A.out.2.2; omega
          case rel => exact ⟨k + 1, by omega, by go_num, G.out⟩
    · have e : k = rs.length := by omega
      have R0 := A.out.1.rows (accR_small (V.out.1.small.take k))
      rw [e, List.take_of_length_le (Nat.le_refl _)] at R0
      have R := Lib.hid R0
      clear R0
      have hal := accR_len low high unb rev rs
      obtain ⟨a, c, hva, hlc', hcm'⟩ := R.out.lenform
      subst hva
      obtain ⟨q, hq⟩ : ∃ q, (accR low high unb rev rs).length = q := ⟨_, rfl⟩
      have Q := Lib.hid hq
      rw [hq] at R hal hlc'
      rw [hq]
      unfold maxLen at hcm'
      clear e hq
      by_cases h1 : 1 ≤ limit
      · obtain ⟨m, rfl⟩ : ∃ m : Nat, limit = m := ⟨limit.toNat, by omega⟩
        have T : Aside (takeR low high unb rev (m : Int) rs = (accR low high unb rev rs).take m) := by show _ = _; unfold takeR; rw [if_pos h1]; rfl
        by_cases h2 : m < q
        · have F : Aside (RowsV wr (.slice a m c) (takeR low high unb rev (m : Int) rs)) := by show RowsV _ _ _; rw [T.out]; exact R.out.takeV (by rw [Q.out]; omega)
          go_wp2
          go_ret
          exact ⟨_, rfl, F.out, A.out.2.1⟩
        · have F : Aside (RowsV wr (.slice a q c) (takeR low high unb rev (m : Int) rs)) := by show RowsV _ _ _; rw [T.out, List.take_of_length_le (by rw [Q.out]; omega)]; exact R.out
          go_wp2
          go_ret
          exact ⟨_, rfl, F.out, A.out.2.1⟩
      · have F : Aside (RowsV wr (.slice a q c) (takeR low high unb rev limit rs)) := by show RowsV _ _ _; unfold takeR; rw [if_neg h1]; exact R.out
        go_wp2
        go_ret
        exact ⟨_, rfl, F.out, A.out.2.1⟩
theorem refTake_any (v : Value) (rs : List Rw) (low high : ByteArray) (unb rev : Bool) (limit : Int) (w : World) (hv : RowsV w v rs)
    (hlo : low.size ≤ maxLen) (hhi : high.size ≤ maxLen) (hl : rs.length ≤ 1000) (hli : -9223372036854775808 ≤ limit ∧ limit ≤ 9223372036854775807) :
    Calls Try.prog 33 #[v, .string low, .string high, .bool unb, .int .i64 limit, .bool rev] w fun ev w' => ∃ v', ev = .returned v' ∧ RowsV w' v' (takeR low high unb rev limit rs) ∧ Below w.heap.size w w' := by
  rcases hv.form with ⟨rfl, rfl⟩ | ⟨b, off, cap, rfl, hlc, hcm, -⟩
  · have hT : takeR low high unb rev limit [] = [] := by unfold takeR accR; cases rev <;> split <;> simp
    rw [hT]
    clear hv
    have N := Lib.hid (RowsV.nil w)
    by_cases h1 : 1 ≤ limit
    · go_enter Try.func33, Try.ntmps33
      go_wp2
      refine wp_loop_rounds 1 ?_
      rw [rounds_succ]
      go_wp2
      go_ret
      exact ⟨_, rfl, N.out, Below.refl _ _⟩
    · go_enter Try.func33, Try.ntmps33
      go_wp2
      refine wp_loop_rounds 1 ?_
      rw [rounds_succ]
      go_wp2
      go_ret
      exact ⟨_, rfl, N.out, Below.refl _ _⟩
  · exact refTake_some b off cap rs low high unb rev limit w hv hlc hcm hlo hhi hl hli
end Go.Proofs.Ytaaikmompiejdaa
