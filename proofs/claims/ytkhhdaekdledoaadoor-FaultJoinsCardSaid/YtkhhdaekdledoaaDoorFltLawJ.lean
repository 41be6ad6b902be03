/- The walk of the law FaultJoins. -/
import Derived.Test.YtkhhdaekdledoaaDoorFltJoinIs
import Derived.IntWalk
namespace Go.Proofs.YtkhhdaekdledoaaDoor
open Go.RowKit Go.Extern.Stop Go.Stop Go.Extern

/-- What is kept of the two boxed ways behind each call. -/
structure Bx (B : Nat) (va sa vb sb : Value) (ca cb : Int) (w0 w : World) : Prop where
  a0 : w.cell? ⟨B, 0, none⟩ = some va
  a1 : w.cell? ⟨B, 1, none⟩ = some sa
  a2 : w.cell? ⟨B, 2, none⟩ = some (.int .i64 ca)
  b0 : w.cell? ⟨B + 1, 0, none⟩ = some vb
  b1 : w.cell? ⟨B + 1, 1, none⟩ = some sb
  b2 : w.cell? ⟨B + 1, 2, none⟩ = some (.int .i64 cb)
  bel : Below B w0 w
  glob : Glob w
theorem Bx.step {B : Nat} {va sa vb sb : Value} {ca cb : Int} {w0 w w' : World} (h : Bx B va sa vb sb ca cb w0 w) (hb : Below w.heap.size w w') : Bx B va sa vb sb ca cb w0 w' where
  a0 := by rw [hb.cell (p := ⟨B, 0, none⟩) (lt_of_cell h.a0)]; exact h.a0
  a1 := by rw [hb.cell (p := ⟨B, 1, none⟩) (lt_of_cell h.a1)]; exact h.a1
  a2 := by rw [hb.cell (p := ⟨B, 2, none⟩) (lt_of_cell h.a2)]; exact h.a2
  b0 := by rw [hb.cell (p := ⟨B + 1, 0, none⟩) (lt_of_cell h.b0)]; exact h.b0
  b1 := by rw [hb.cell (p := ⟨B + 1, 1, none⟩) (lt_of_cell h.b1)]; exact h.b1
  b2 := by rw [hb.cell (p := ⟨B + 1, 2, none⟩) (lt_of_cell h.b2)]; exact h.b2
  bel := h.bel.trans (hb.mono (Nat.le_of_lt (lt_of_cell h.a0)))
  glob := h.glob.below hb

/-- What is kept behind each call of the last test. -/
structure JK (B : Nat) (va sa vb sb : Value) (ca cb : Int) (w0 : World) (jb ob tg ux uy : Nat) (vx vy : Value) (la lb : List (ByteArray × Int)) (place : ByteArray) (w : World) : Prop where
  bx : Bx B va sa vb sb ca cb w0 w
  cx : Chn w (.iface ux vx) la ca
  cy : Chn w (.iface uy vy) lb cb
  jn : Jn w (.iface 60 (.pointer (some ⟨jb, 0, none⟩))) (.iface ux vx) (.iface uy vy)
  o2 : w.cell? ⟨ob, 2, none⟩ = some (.iface 60 (.pointer (some ⟨jb, 0, none⟩)))
  t0 : w.cell? ⟨tg, 0, none⟩ = some (.string place)
theorem JK.step {B : Nat} {va sa vb sb : Value} {ca cb : Int} {w0 : World} {jb ob tg ux uy : Nat} {vx vy : Value} {la lb : List (ByteArray × Int)} {place : ByteArray} {w w' : World} (h : JK B va sa vb sb ca cb w0 jb ob tg ux uy vx vy la lb place w) (hb : Below w.heap.size w w') : JK B va sa vb sb ca cb w0 jb ob tg ux uy vx vy la lb place w' :=
  ⟨h.bx.step hb, h.cx.below hb, h.cy.below hb, h.jn.below hb, (hb.cell (p := ⟨ob, 2, none⟩) (lt_of_cell h.o2)).trans h.o2, (hb.cell (p := ⟨tg, 0, none⟩) (lt_of_cell h.t0)).trans h.t0⟩
theorem JK.drew {B : Nat} {va sa vb sb : Value} {ca cb : Int} {w0 : World} {jb ob tg ux uy : Nat} {vx vy : Value} {la lb : List (ByteArray × Int)} {place : ByteArray} {w : World} (h : JK B va sa vb sb ca cb w0 jb ob tg ux uy vx vy la lb place w) : JK B va sa vb sb ca cb w0 jb ob tg ux uy vx vy la lb place w.drew := h.step (Below.refl _ _).drew
theorem str_one {w : World} {B : Nat} {v : Value} {s : ByteArray} (h : w.ownsRow B 9 1 v 1 [.string s]) : ∃ g cap, v = .slice (some ⟨g, 0, none⟩) 1 cap ∧ w.cell? ⟨g, 0, none⟩ = some (.string s) := by
  obtain ⟨-, h2⟩ := h
  rcases h2 with ⟨_, k⟩ | ⟨g, cap, cur, rfl, _, hc, _, _, _, ht⟩
  · omega
  · refine ⟨g, cap, rfl, ?_⟩
    have t0 : cur.toList[0]? = some (.string s) := by have := congrArg (fun l => l[0]?) ht; simpa [List.getElem?_take] using this
    simp [World.cell?, hc]; simpa using t0

def FewOf (w : World) (ps : List ByteArray) (e : Ending) (w' : World) : Prop := ∃ B, e = .returned (.bool B) ∧ Below w.heap.size w w' ∧ (B = true → ps.length ≤ 100)
set_option maxHeartbeats 4000000 in
theorem few_le (vp vs : Value) (c : Int) (ps : List ByteArray) (w : World) (hp : StrsV w vp ps) :
    Calls Tryd.prog 7 #[.agg #[vp, vs, .int .i64 c]] w (FewOf w ps) := by
  obtain ⟨a, cap, rfl, hm, hr⟩ := hp
  unfold maxLen at hm
  have R : Aside (∀ i, i < ps.length → ∃ b off, a = some ⟨b, off, none⟩ ∧ w.cell? ⟨b, off + i, none⟩ = some (.string (ps.getD i ByteArray.empty))) := hr
  clear hr
  go_enter Tryd.func7, Tryd.ntmps7
  go_wp2
  go_loop [3, 4] (fun n i => ∃ (k : Nat) (z : Int), k ≤ ps.length ∧ k ≤ 101 ∧ 0 ≤ z ∧ z ≤ 2000 * k ∧ i = .int .i64 k ∧ n = .int .i64 z) (fun _ i => ps.length - (intOf i).toNat)
  case atStart => exact ⟨0, 0, by omega, by omega, by omega, by omega, rfl, rfl⟩
  case round =>
    obtain ⟨k, z, hk, hk2, hz0, hz1, rfl, rfl⟩ := hrel
    by_cases hlt : k < ps.length
    · obtain ⟨b, off, rfl, hc⟩ := R.out k hlt
      have hcl := lt_of_cell hc
      have hc' : (w.alloc (.cells #[.slice (some ⟨b, off, none⟩) ps.length cap, vs, .int .i64 c] 26)).cell? ⟨b, off + k, none⟩ = some (.string (ps.getD k ByteArray.empty)) := by
        rw [World.cell?_alloc_lt _ _ ⟨b, off + k, none⟩ hcl]; exact hc
      clear hc
      by_cases h100 : k ≤ 100
      · go_wp2
        exact ⟨⟨k + 1, _, by omega, by omega, by split <;> omega, by split <;> omega, by go_num, rfl⟩, by simp [intOf]; omega⟩
      · go_wp2
        all_goals (go_ret; exact ⟨_, rfl, (Below.refl _ _).alloc (Nat.le_refl _) _, by intro h; first | omega | cases h⟩)
    · go_wp2
      all_goals (go_ret; exact ⟨_, rfl, (Below.refl _ _).alloc (Nat.le_refl _) _, by intro h; first | omega | cases h⟩)


theorem plc_pos (p : ByteArray × Int) (l : List (ByteArray × Int)) : plc (p :: l) = .tuple #[.string p.1, .int .i64 p.2, .bool true] := rfl

set_option maxRecDepth 100000 in
set_option maxHeartbeats 16000000 in
theorem lawJoins (va sa vb sb : Value) (ca cb : Int) (place : ByteArray) (psa psb : List ByteArray) (ssa ssb : List Int) (w : World) (hg : Glob w)
    (hpa : StrsV w va psa) (hsa : IntsV w sa ssa) (hpb : StrsV w vb psb) (hsb : IntsV w sb ssb) :
    Calls Tryd.prog 4 #[.agg #[va, sa, .int .i64 ca], .agg #[vb, sb, .int .i64 cb], .string place] w fun ev w' => ev = .returned (.bool true) ∧ Below w.heap.size w w' := by
  have hnot := run_not
  have L : Aside (Glob w ∧ StrsV w va psa ∧ IntsV w sa ssa ∧ StrsV w vb psb ∧ IntsV w sb ssb) := ⟨hg, hpa, hsa, hpb, hsb⟩
  clear hg hpa hsa hpb hsb
  have hb0 : Below w.heap.size w ((w.alloc (.cells #[va, sa, .int .i64 ca] 26)).alloc (.cells #[vb, sb, .int .i64 cb] 26)) := ((Below.refl _ _).alloc (Nat.le_refl _) _).alloc (by simp) _
  have hK : Bx w.heap.size va sa vb sb ca cb w ((w.alloc (.cells #[va, sa, .int .i64 ca] 26)).alloc (.cells #[vb, sb, .int .i64 cb] 26)) := by
    refine ⟨?_, ?_, ?_, ?_, ?_, ?_, hb0, L.out.1.below hb0⟩
    · rw [World.cell?_alloc_lt _ _ ⟨w.heap.size, 0, none⟩ (by simp), World.cell?_alloc_at _ _ _ _ rfl]; rfl
    · rw [World.cell?_alloc_lt _ _ ⟨w.heap.size, 1, none⟩ (by simp), World.cell?_alloc_at _ _ _ _ rfl]; rfl
    · rw [World.cell?_alloc_lt _ _ ⟨w.heap.size, 2, none⟩ (by simp), World.cell?_alloc_at _ _ _ _ rfl]; rfl
    · rw [World.cell?_alloc_at _ _ _ _ (by simp)]; rfl
    · rw [World.cell?_alloc_at _ _ _ _ (by simp)]; rfl
    · rw [World.cell?_alloc_at _ _ _ _ (by simp)]; rfl
  have K0 : Aside (Bx w.heap.size va sa vb sb ca cb w _) := hK
  clear hK hb0
  go_enter Tryd.func4, Tryd.ntmps4
  go_wp2_with fail
  refine (few_le _ _ _ psa _ (L.out.2.1.below K0.out.bel)).mono ?_
  rintro ev w1 ⟨B1, rfl, hs, hfa⟩
  have K1 : Aside (Bx w.heap.size va sa vb sb ca cb w w1) := K0.out.step hs
  have b0 := K1.out.b0
  have b1 := K1.out.b1
  have b2 := K1.out.b2
  clear hs K0
  cases B1 with
  | false =>
    go_wp2_with fail
    refine (awake_any _ K1.out.glob).mono ?_
    rintro ev w3 ⟨rfl, hs⟩
    have D : Aside (Below w.heap.size w w3) := (K1.out.step hs).bel
    clear hs K1 b0 b1 b2
    go_wp2
    go_ret
    exact ⟨rfl, D.out⟩
  | true =>
    go_wp2_with fail
    refine (few_le _ _ _ psb _ (L.out.2.2.2.1.below K1.out.bel)).mono ?_
    rintro ev w2 ⟨B2, rfl, hs, hfb⟩
    have K2 : Aside (Bx w.heap.size va sa vb sb ca cb w w2) := K1.out.step hs
    clear hs K1 b0 b1 b2
    cases B2 with
    | false =>
      go_wp2_with fail
      refine (awake_any _ K2.out.glob).mono ?_
      rintro ev w3 ⟨rfl, hs⟩
      have D : Aside (Below w.heap.size w w3) := (K2.out.step hs).bel
      clear hs K2
      go_wp2
      go_ret
      exact ⟨rfl, D.out⟩
    | true =>
      have a0 := K2.out.a0
      have a1 := K2.out.a1
      have a2 := K2.out.a2
      have b0 := K2.out.b0
      have b1 := K2.out.b1
      have b2 := K2.out.b2
      go_wp2_with fail
      go_region_held3 (fun w' => w'.cell? ⟨w.heap.size, 0, none⟩ = some va ∧ w'.cell? ⟨w.heap.size, 1, none⟩ = some sa ∧ w'.cell? ⟨w.heap.size, 2, none⟩ = some (.int .i64 ca) ∧ w'.cell? ⟨w.heap.size + 1, 0, none⟩ = some vb ∧ w'.cell? ⟨w.heap.size + 1, 1, none⟩ = some sb ∧ w'.cell? ⟨w.heap.size + 1, 2, none⟩ = some (.int .i64 cb))
        (first | exact ⟨by assumption, by assumption, by assumption, by assumption, by assumption, by assumption⟩ | go_keep)
        (first
          | (go_at_call 9; (with_reducible refine (made_any va sa ca psa ssa _ ?_ ?_).mono ?_); exact (L.out.2.1.below K2.out.bel).below (Below.refl _ _).drew; exact (L.out.2.2.1.below K2.out.bel).below (Below.refl _ _).drew; rintro e w3 ⟨la, xv, rfl, hC, hl, hs⟩; have K3 : Aside (Bx w.heap.size va sa vb sb ca cb w w3 ∧ Chn w3 xv la ca ∧ la.map Prod.fst = psa) := ⟨(K2.out.step (Below.refl _ _).drew).step hs, hC, hl⟩; have a03 := K3.out.1.a0; have a13 := K3.out.1.a1; have a23 := K3.out.1.a2; have b03 := K3.out.1.b0; have b13 := K3.out.1.b1; have b23 := K3.out.1.b2; clear hC hl hs)
          | (go_at_call 9; (with_reducible refine (made_any vb sb cb psb ssb _ ?_ ?_).mono ?_); exact L.out.2.2.2.1.below K3.out.1.bel; exact L.out.2.2.2.2.below K3.out.1.bel; rintro e w4 ⟨lb, yv, rfl, hC, hl, hs⟩; have K4 : Aside (Bx w.heap.size va sa vb sb ca cb w w4 ∧ Chn w4 xv la ca ∧ Chn w4 yv lb cb ∧ la.map Prod.fst = psa ∧ lb.map Prod.fst = psb) := ⟨K3.out.1.step hs, K3.out.2.1.below hs, hC, K3.out.2.2, hl⟩; have a04 := K4.out.1.a0; have a14 := K4.out.1.a1; have a24 := K4.out.1.a2; have b04 := K4.out.1.b0; have b14 := K4.out.1.b1; have b24 := K4.out.1.b2; clear hC hl hs))
      obtain ⟨ux, vx, rfl⟩ := K4.out.2.1.held
      obtain ⟨uy, vy, rfl⟩ := K4.out.2.2.1.held
      clear a0 a1 a2 b0 b1 b2 a03 a13 a23 b03 b13 b23 a04 a14 a24 b04 b14 b24 K2 K3
      go_wp2_with fail
      have hb5 : Below w4.heap.size w4 (w4.alloc (.cells #[.iface ux vx, .iface uy vy] 30)) := (Below.refl _ _).alloc (Nat.le_refl _) _
      refine (Join_two w4.heap.size ux uy vx vy _ (by rw [World.cell?_alloc_at _ _ _ _ rfl]; rfl) (by rw [World.cell?_alloc_at _ _ _ _ rfl]; rfl)).mono ?_
      rintro ev w5 ⟨jv, rfl, hj, hs⟩
      have hb6 : Below w4.heap.size w4 w5 := hb5.trans (hs.mono (by simp))
      have K5 : Aside (Bx w.heap.size va sa vb sb ca cb w w5 ∧ Chn w5 (.iface ux vx) la ca ∧ Chn w5 (.iface uy vy) lb cb ∧ la.map Prod.fst = psa ∧ lb.map Prod.fst = psb ∧ Jn w5 jv (.iface ux vx) (.iface uy vy)) := ⟨K4.out.1.step hb6, K4.out.2.1.below hb6, K4.out.2.2.1.below hb6, K4.out.2.2.2.1, K4.out.2.2.2.2, hj⟩
      clear hs hb5 hb6 hj K4
      obtain ⟨jb, jg, jc, rfl, -, -, -⟩ := K5.out.2.2.2.2.2
      go_wp2_with fail
      refine (At_some _ _ _ _ _).mono ?_
      rintro ev w6 ⟨rfl, rfl⟩
      have hb7 : Below w5.heap.size w5 (w5.alloc (.cells #[.string place, .int .i64 1, .iface 60 (.pointer (some ⟨jb, 0, none⟩))] 53)) := (Below.refl _ _).alloc (Nat.le_refl _) _
      have ho : (w5.alloc (.cells #[.string place, .int .i64 1, .iface 60 (.pointer (some ⟨jb, 0, none⟩))] 53)).cell? ⟨w5.heap.size, 2, none⟩ = some (.iface 60 (.pointer (some ⟨jb, 0, none⟩))) := by rw [World.cell?_alloc_at _ _ _ _ rfl]; rfl
      have hp : (w5.alloc (.cells #[.string place, .int .i64 1, .iface 60 (.pointer (some ⟨jb, 0, none⟩))] 53)).cell? ⟨w5.heap.size, 0, none⟩ = some (.string place) := by rw [World.cell?_alloc_at _ _ _ _ rfl]; rfl
      have K6 : Aside (Bx w.heap.size va sa vb sb ca cb w (w5.alloc _) ∧ Chn (w5.alloc _) (.iface ux vx) la ca ∧ Chn (w5.alloc _) (.iface uy vy) lb cb ∧ la.map Prod.fst = psa ∧ lb.map Prod.fst = psb ∧ Jn (w5.alloc _) _ (.iface ux vx) (.iface uy vy) ∧ _ = some _ ∧ _ = some (Value.string place)) := ⟨K5.out.1.step hb7, K5.out.2.1.below hb7, K5.out.2.2.1.below hb7, K5.out.2.2.2.1, K5.out.2.2.2.2.1, K5.out.2.2.2.2.2.below hb7, ho, hp⟩
      clear hb7 ho hp K5
      generalize w5.heap.size = ob at *
      generalize w5.alloc (.cells #[.string place, .int .i64 1, .iface 60 (.pointer (some ⟨jb, 0, none⟩))] 53) = w6 at *
      go_wp2_with fail
      refine (Place_join la lb ca cb _ _ _ _ K6.out.2.2.2.2.2.1 K6.out.2.1 K6.out.2.2.1 K6.out.1.glob).mono ?_
      rintro ev w7 ⟨rfl, hs⟩
      have K7 : Aside (Bx w.heap.size va sa vb sb ca cb w w7 ∧ Chn w7 (.iface ux vx) la ca ∧ Chn w7 (.iface uy vy) lb cb ∧ Jn w7 (.iface 60 (.pointer (some ⟨jb, 0, none⟩))) (.iface ux vx) (.iface uy vy) ∧ w7.cell? ⟨ob, 2, none⟩ = some (.iface 60 (.pointer (some ⟨jb, 0, none⟩))) ∧ w7.cell? ⟨ob, 0, none⟩ = some (.string place)) :=
        ⟨K6.out.1.step hs, K6.out.2.1.below hs, K6.out.2.2.1.below hs, K6.out.2.2.2.2.2.1.below hs, (hs.cell (p := ⟨ob, 2, none⟩) (lt_of_cell K6.out.2.2.2.2.2.2.1)).trans K6.out.2.2.2.2.2.2.1, (hs.cell (p := ⟨ob, 0, none⟩) (lt_of_cell K6.out.2.2.2.2.2.2.2)).trans K6.out.2.2.2.2.2.2.2⟩
      have hla := K6.out.2.2.2.1
      have hlb := K6.out.2.2.2.2.1
      clear hs K6
      obtain ⟨xa, ccap, rfl, -, hra⟩ := L.out.2.1
      obtain ⟨xb, dcap, rfl, -, hrb⟩ := L.out.2.2.2.1
      have hma : psa.length ≤ 100 := by first | exact hfa rfl | exact hfa trivial | simpa using hfa
      have hmb : psb.length ≤ 100 := by first | exact hfb rfl | exact hfb trivial | simpa using hfb
      clear hfa hfb
      have a0 := K7.out.1.a0
      have b0 := K7.out.1.b0
      cases la with
      | cons pa la =>
        have h1 : 0 < psa.length := by rw [← hla]; simp
        have hq : psa.getD 0 ByteArray.empty = pa.1 := by rw [← hla]; rfl
        obtain ⟨qb, qo, rfl, hqc⟩ := hra 0 h1
        rw [hq] at hqc
        have hq7 : w7.cell? ⟨qb, qo, none⟩ = some (.string pa.1) := (K7.out.1.bel.cell (p := ⟨qb, qo, none⟩) (lt_of_cell hqc)).trans hqc
        have hsum : decide ((0 : Int) < (psa.length : Int) + (psb.length : Int)) = true := by simp; omega
        clear hq hqc hra hrb hla hlb
        rw [List.cons_append, plc_pos]
        generalize hla' : pa :: la = la' at *
        generalize hlb' : lb = lb' at *
        clear hla' hlb'
        go_wp2_with fail
        refine (Trail_over ob place la' lb' ca cb _ _ _ _ K7.out.2.2.2.2.2 K7.out.2.2.2.2.1 K7.out.2.2.2.1 K7.out.2.1 K7.out.2.2.1 K7.out.1.glob).mono ?_
        rintro ev w8 ⟨tv, rfl, hown, hs⟩
        obtain ⟨tg, tc, rfl, ct⟩ := str_one hown
        have K8 : Aside (JK w.heap.size (.slice (some ⟨qb, qo, none⟩) psa.length ccap) sa (.slice xb psb.length dcap) sb ca cb w jb ob tg ux uy vx vy la' lb' place w8) :=
          ⟨K7.out.1.step hs, K7.out.2.1.below hs, K7.out.2.2.1.below hs, K7.out.2.2.2.1.below hs, (hs.cell (p := ⟨ob, 2, none⟩) (lt_of_cell K7.out.2.2.2.2.1)).trans K7.out.2.2.2.2.1, ct⟩
        clear hs hown K7 a0 b0
        have a0 := K8.out.bx.a0
        have a2 := K8.out.bx.a2
        have b0 := K8.out.bx.b0
        have b2 := K8.out.bx.b2
        go_wp2_with fail
        have hwr : IntKind.i64.wrap ((psa.length : Int) + (psb.length : Int)) = (psa.length : Int) + (psb.length : Int) := Go.IntWalk.i64_in _ (by omega)
        go_region_held3 (fun w' => w'.cell? ⟨w.heap.size, 0, none⟩ = some (.slice (some ⟨qb, qo, none⟩) psa.length ccap) ∧ w'.cell? ⟨w.heap.size, 2, none⟩ = some (.int .i64 ca) ∧ w'.cell? ⟨w.heap.size + 1, 0, none⟩ = some (.slice xb psb.length dcap) ∧ w'.cell? ⟨w.heap.size + 1, 2, none⟩ = some (.int .i64 cb) ∧ w'.cell? ⟨tg, 0, none⟩ = some (.string place))
          (first | exact ⟨by assumption, by assumption, by assumption, by assumption, by assumption⟩ | go_keep)
          (first
            | (go_at_call 13; (with_reducible refine (Code_join la' ca (.iface 60 (.pointer (some ⟨jb, 0, none⟩))) (.iface ux vx) (.iface uy vy) _ ?_ ?_ ?_).mono ?_); exact K8.out.drew.jn; exact K8.out.drew.cx; exact K8.out.drew.bx.glob; rintro e x1 ⟨rfl, hs⟩; have M1 : Aside (JK w.heap.size (.slice (some ⟨qb, qo, none⟩) psa.length ccap) sa (.slice xb psb.length dcap) sb ca cb w jb ob tg ux uy vx vy la' lb' place x1) := K8.out.drew.step hs; have M1a := M1.out.bx.a0; have M1b := M1.out.bx.a2; have M1c := M1.out.bx.b0; have M1d := M1.out.bx.b2; have M1e := M1.out.t0; clear hs)
            | (go_at_call 11; (with_reducible refine (Is_join la' lb' ca cb ca (.iface 60 (.pointer (some ⟨jb, 0, none⟩))) (.iface ux vx) (.iface uy vy) _ ?_ ?_ ?_ (Or.inl rfl)).mono ?_); exact M1.out.jn; exact M1.out.cx; exact M1.out.cy; rintro e x2 ⟨rfl, hs⟩; have M2 : Aside (JK w.heap.size (.slice (some ⟨qb, qo, none⟩) psa.length ccap) sa (.slice xb psb.length dcap) sb ca cb w jb ob tg ux uy vx vy la' lb' place x2) := M1.out.step hs; have M2a := M2.out.bx.a0; have M2b := M2.out.bx.a2; have M2c := M2.out.bx.b0; have M2d := M2.out.bx.b2; have M2e := M2.out.t0; clear hs)
            | (go_at_call 11; (with_reducible refine (Is_join la' lb' ca cb cb (.iface 60 (.pointer (some ⟨jb, 0, none⟩))) (.iface ux vx) (.iface uy vy) _ ?_ ?_ ?_ (Or.inr rfl)).mono ?_); exact M2.out.jn; exact M2.out.cx; exact M2.out.cy; rintro e x3 ⟨rfl, hs⟩; have M3 : Aside (JK w.heap.size (.slice (some ⟨qb, qo, none⟩) psa.length ccap) sa (.slice xb psb.length dcap) sb ca cb w jb ob tg ux uy vx vy la' lb' place x3) := M2.out.step hs; have M3a := M3.out.bx.a0; have M3b := M3.out.bx.a2; have M3c := M3.out.bx.b0; have M3d := M3.out.bx.b2; have M3e := M3.out.t0; clear hs)
            | (go_at_call 14; (with_reducible refine (Trail_join la' lb' ca cb (.iface 60 (.pointer (some ⟨jb, 0, none⟩))) (.iface ux vx) (.iface uy vy) _ ?_ ?_ ?_ ?_).mono ?_); exact M3.out.jn; exact M3.out.cx; exact M3.out.cy; exact M3.out.bx.glob; rintro e x4 ⟨rfl, hs⟩; have M4 : Aside (JK w.heap.size (.slice (some ⟨qb, qo, none⟩) psa.length ccap) sa (.slice xb psb.length dcap) sb ca cb w jb ob tg ux uy vx vy la' lb' place x4) := M3.out.step hs; have M4a := M4.out.bx.a0; have M4b := M4.out.bx.a2; have M4c := M4.out.bx.b0; have M4d := M4.out.bx.b2; have M4e := M4.out.t0; clear hs)
            | (go_at_call 13; (with_reducible refine (Code_over ob la' ca (.iface 60 (.pointer (some ⟨jb, 0, none⟩))) (.iface ux vx) (.iface uy vy) _ ?_ ?_ ?_ ?_).mono ?_); exact M4.out.jn; exact M4.out.o2; exact M4.out.cx; exact M4.out.bx.glob; rintro e x5 ⟨rfl, hs⟩; have M5 : Aside (JK w.heap.size (.slice (some ⟨qb, qo, none⟩) psa.length ccap) sa (.slice xb psb.length dcap) sb ca cb w jb ob tg ux uy vx vy la' lb' place x5) := M4.out.step hs; have M5a := M5.out.bx.a0; have M5b := M5.out.bx.a2; have M5c := M5.out.bx.b0; have M5d := M5.out.bx.b2; have M5e := M5.out.t0; clear hs)
            | (go_at_call 8; (with_reducible refine (awake_any _ ?_).mono ?_); exact M5.out.bx.glob; rintro e x6 ⟨rfl, hs⟩; have M6 : Aside (JK w.heap.size (.slice (some ⟨qb, qo, none⟩) psa.length ccap) sa (.slice xb psb.length dcap) sb ca cb w jb ob tg ux uy vx vy la' lb' place x6) := M5.out.step hs; have M6a := M6.out.bx.a0; have M6b := M6.out.bx.a2; have M6c := M6.out.bx.b0; have M6d := M6.out.bx.b2; have M6e := M6.out.t0; clear hs))
        go_wp2
        go_ret
        exact ⟨rfl, M6.out.bx.bel⟩
      | nil =>
        obtain rfl : psa = [] := by rw [← hla]; rfl
        simp only [List.length_nil] at a0
        cases lb with
        | cons pb lb =>
          have h2 : 0 < psb.length := by rw [← hlb]; simp
          have hq : psb.getD 0 ByteArray.empty = pb.1 := by rw [← hlb]; rfl
          obtain ⟨qb, qo, rfl, hqc⟩ := hrb 0 h2
          rw [hq] at hqc
          have hq7 : w7.cell? ⟨qb, qo, none⟩ = some (.string pb.1) := (K7.out.1.bel.cell (p := ⟨qb, qo, none⟩) (lt_of_cell hqc)).trans hqc
          have hsum : decide ((0 : Int) < (psb.length : Int)) = true := by simp; omega
          clear hq hqc hra hrb hla hlb
          rw [List.nil_append, plc_pos]
          generalize hlb' : pb :: lb = lb' at *
          generalize hla' : ([] : List (ByteArray × Int)) = la' at *
          clear hla' hlb'
          go_wp2_with fail
          refine (Trail_over ob place la' lb' ca cb _ _ _ _ K7.out.2.2.2.2.2 K7.out.2.2.2.2.1 K7.out.2.2.2.1 K7.out.2.1 K7.out.2.2.1 K7.out.1.glob).mono ?_
          rintro ev w8 ⟨tv, rfl, hown, hs⟩
          obtain ⟨tg, tc, rfl, ct⟩ := str_one hown
          have K8 : Aside (JK w.heap.size (.slice xa 0 ccap) sa (.slice (some ⟨qb, qo, none⟩) psb.length dcap) sb ca cb w jb ob tg ux uy vx vy la' lb' place w8) :=
            ⟨K7.out.1.step hs, K7.out.2.1.below hs, K7.out.2.2.1.below hs, K7.out.2.2.2.1.below hs, (hs.cell (p := ⟨ob, 2, none⟩) (lt_of_cell K7.out.2.2.2.2.1)).trans K7.out.2.2.2.2.1, ct⟩
          clear hs hown K7 a0 b0
          have a0 := K8.out.bx.a0
          have a2 := K8.out.bx.a2
          have b0 := K8.out.bx.b0
          have b2 := K8.out.bx.b2
          go_wp2_with fail
          have hwr : IntKind.i64.wrap (psb.length : Int) = (psb.length : Int) := Go.IntWalk.i64_in _ (by omega)
          go_region_held3 (fun w' => w'.cell? ⟨w.heap.size, 0, none⟩ = some (.slice xa 0 ccap) ∧ w'.cell? ⟨w.heap.size, 2, none⟩ = some (.int .i64 ca) ∧ w'.cell? ⟨w.heap.size + 1, 0, none⟩ = some (.slice (some ⟨qb, qo, none⟩) psb.length dcap) ∧ w'.cell? ⟨w.heap.size + 1, 2, none⟩ = some (.int .i64 cb) ∧ w'.cell? ⟨tg, 0, none⟩ = some (.string place))
            (first | exact ⟨by assumption, by assumption, by assumption, by assumption, by assumption⟩ | go_keep)
            (first
            | (go_at_call 13; (with_reducible refine (Code_join la' ca (.iface 60 (.pointer (some ⟨jb, 0, none⟩))) (.iface ux vx) (.iface uy vy) _ ?_ ?_ ?_).mono ?_); exact K8.out.drew.jn; exact K8.out.drew.cx; exact K8.out.drew.bx.glob; rintro e x1 ⟨rfl, hs⟩; have M1 : Aside (JK w.heap.size (.slice xa 0 ccap) sa (.slice (some ⟨qb, qo, none⟩) psb.length dcap) sb ca cb w jb ob tg ux uy vx vy la' lb' place x1) := K8.out.drew.step hs; have M1a := M1.out.bx.a0; have M1b := M1.out.bx.a2; have M1c := M1.out.bx.b0; have M1d := M1.out.bx.b2; have M1e := M1.out.t0; clear hs)
            | (go_at_call 11; (with_reducible refine (Is_join la' lb' ca cb ca (.iface 60 (.pointer (some ⟨jb, 0, none⟩))) (.iface ux vx) (.iface uy vy) _ ?_ ?_ ?_ (Or.inl rfl)).mono ?_); exact M1.out.jn; exact M1.out.cx; exact M1.out.cy; rintro e x2 ⟨rfl, hs⟩; have M2 : Aside (JK w.heap.size (.slice xa 0 ccap) sa (.slice (some ⟨qb, qo, none⟩) psb.length dcap) sb ca cb w jb ob tg ux uy vx vy la' lb' place x2) := M1.out.step hs; have M2a := M2.out.bx.a0; have M2b := M2.out.bx.a2; have M2c := M2.out.bx.b0; have M2d := M2.out.bx.b2; have M2e := M2.out.t0; clear hs)
            | (go_at_call 11; (with_reducible refine (Is_join la' lb' ca cb cb (.iface 60 (.pointer (some ⟨jb, 0, none⟩))) (.iface ux vx) (.iface uy vy) _ ?_ ?_ ?_ (Or.inr rfl)).mono ?_); exact M2.out.jn; exact M2.out.cx; exact M2.out.cy; rintro e x3 ⟨rfl, hs⟩; have M3 : Aside (JK w.heap.size (.slice xa 0 ccap) sa (.slice (some ⟨qb, qo, none⟩) psb.length dcap) sb ca cb w jb ob tg ux uy vx vy la' lb' place x3) := M2.out.step hs; have M3a := M3.out.bx.a0; have M3b := M3.out.bx.a2; have M3c := M3.out.bx.b0; have M3d := M3.out.bx.b2; have M3e := M3.out.t0; clear hs)
            | (go_at_call 14; (with_reducible refine (Trail_join la' lb' ca cb (.iface 60 (.pointer (some ⟨jb, 0, none⟩))) (.iface ux vx) (.iface uy vy) _ ?_ ?_ ?_ ?_).mono ?_); exact M3.out.jn; exact M3.out.cx; exact M3.out.cy; exact M3.out.bx.glob; rintro e x4 ⟨rfl, hs⟩; have M4 : Aside (JK w.heap.size (.slice xa 0 ccap) sa (.slice (some ⟨qb, qo, none⟩) psb.length dcap) sb ca cb w jb ob tg ux uy vx vy la' lb' place x4) := M3.out.step hs; have M4a := M4.out.bx.a0; have M4b := M4.out.bx.a2; have M4c := M4.out.bx.b0; have M4d := M4.out.bx.b2; have M4e := M4.out.t0; clear hs)
            | (go_at_call 13; (with_reducible refine (Code_over ob la' ca (.iface 60 (.pointer (some ⟨jb, 0, none⟩))) (.iface ux vx) (.iface uy vy) _ ?_ ?_ ?_ ?_).mono ?_); exact M4.out.jn; exact M4.out.o2; exact M4.out.cx; exact M4.out.bx.glob; rintro e x5 ⟨rfl, hs⟩; have M5 : Aside (JK w.heap.size (.slice xa 0 ccap) sa (.slice (some ⟨qb, qo, none⟩) psb.length dcap) sb ca cb w jb ob tg ux uy vx vy la' lb' place x5) := M4.out.step hs; have M5a := M5.out.bx.a0; have M5b := M5.out.bx.a2; have M5c := M5.out.bx.b0; have M5d := M5.out.bx.b2; have M5e := M5.out.t0; clear hs)
            | (go_at_call 8; (with_reducible refine (awake_any _ ?_).mono ?_); exact M5.out.bx.glob; rintro e x6 ⟨rfl, hs⟩; have M6 : Aside (JK w.heap.size (.slice xa 0 ccap) sa (.slice (some ⟨qb, qo, none⟩) psb.length dcap) sb ca cb w jb ob tg ux uy vx vy la' lb' place x6) := M5.out.step hs; have M6a := M6.out.bx.a0; have M6b := M6.out.bx.a2; have M6c := M6.out.bx.b0; have M6d := M6.out.bx.b2; have M6e := M6.out.t0; clear hs))
          go_wp2
          go_ret
          exact ⟨rfl, M6.out.bx.bel⟩
        | nil =>
          obtain rfl : psb = [] := by rw [← hlb]; rfl
          simp only [List.length_nil] at b0
          clear hra hrb hla hlb
          have e0 : plc ([] ++ [] : List (ByteArray × Int)) = .tuple #[.string ⟨#[]⟩, .int .i64 0, .bool false] := rfl
          rw [e0]
          clear e0
          generalize hla' : ([] : List (ByteArray × Int)) = la' at *
          clear hla'
          go_wp2_with fail
          refine (Trail_over ob place la' la' ca cb _ _ _ _ K7.out.2.2.2.2.2 K7.out.2.2.2.2.1 K7.out.2.2.2.1 K7.out.2.1 K7.out.2.2.1 K7.out.1.glob).mono ?_
          rintro ev w8 ⟨tv, rfl, hown, hs⟩
          obtain ⟨tg, tc, rfl, ct⟩ := str_one hown
          have K8 : Aside (JK w.heap.size (.slice xa 0 ccap) sa (.slice xb 0 dcap) sb ca cb w jb ob tg ux uy vx vy la' la' place w8) :=
            ⟨K7.out.1.step hs, K7.out.2.1.below hs, K7.out.2.2.1.below hs, K7.out.2.2.2.1.below hs, (hs.cell (p := ⟨ob, 2, none⟩) (lt_of_cell K7.out.2.2.2.2.1)).trans K7.out.2.2.2.2.1, ct⟩
          clear hs hown K7 a0 b0
          have a0 := K8.out.bx.a0
          have a2 := K8.out.bx.a2
          have b0 := K8.out.bx.b0
          have b2 := K8.out.bx.b2
          go_wp2_with fail
          go_region_held3 (fun w' => w'.cell? ⟨w.heap.size, 0, none⟩ = some (.slice xa 0 ccap) ∧ w'.cell? ⟨w.heap.size, 2, none⟩ = some (.int .i64 ca) ∧ w'.cell? ⟨w.heap.size + 1, 0, none⟩ = some (.slice xb 0 dcap) ∧ w'.cell? ⟨w.heap.size + 1, 2, none⟩ = some (.int .i64 cb) ∧ w'.cell? ⟨tg, 0, none⟩ = some (.string place))
            (first | exact ⟨by assumption, by assumption, by assumption, by assumption, by assumption⟩ | go_keep)
            (first
            | (go_at_call 13; (with_reducible refine (Code_join la' ca (.iface 60 (.pointer (some ⟨jb, 0, none⟩))) (.iface ux vx) (.iface uy vy) _ ?_ ?_ ?_).mono ?_); exact K8.out.drew.jn; exact K8.out.drew.cx; exact K8.out.drew.bx.glob; rintro e x1 ⟨rfl, hs⟩; have M1 : Aside (JK w.heap.size (.slice xa 0 ccap) sa (.slice xb 0 dcap) sb ca cb w jb ob tg ux uy vx vy la' la' place x1) := K8.out.drew.step hs; have M1a := M1.out.bx.a0; have M1b := M1.out.bx.a2; have M1c := M1.out.bx.b0; have M1d := M1.out.bx.b2; have M1e := M1.out.t0; clear hs)
            | (go_at_call 11; (with_reducible refine (Is_join la' la' ca cb ca (.iface 60 (.pointer (some ⟨jb, 0, none⟩))) (.iface ux vx) (.iface uy vy) _ ?_ ?_ ?_ (Or.inl rfl)).mono ?_); exact M1.out.jn; exact M1.out.cx; exact M1.out.cy; rintro e x2 ⟨rfl, hs⟩; have M2 : Aside (JK w.heap.size (.slice xa 0 ccap) sa (.slice xb 0 dcap) sb ca cb w jb ob tg ux uy vx vy la' la' place x2) := M1.out.step hs; have M2a := M2.out.bx.a0; have M2b := M2.out.bx.a2; have M2c := M2.out.bx.b0; have M2d := M2.out.bx.b2; have M2e := M2.out.t0; clear hs)
            | (go_at_call 11; (with_reducible refine (Is_join la' la' ca cb cb (.iface 60 (.pointer (some ⟨jb, 0, none⟩))) (.iface ux vx) (.iface uy vy) _ ?_ ?_ ?_ (Or.inr rfl)).mono ?_); exact M2.out.jn; exact M2.out.cx; exact M2.out.cy; rintro e x3 ⟨rfl, hs⟩; have M3 : Aside (JK w.heap.size (.slice xa 0 ccap) sa (.slice xb 0 dcap) sb ca cb w jb ob tg ux uy vx vy la' la' place x3) := M2.out.step hs; have M3a := M3.out.bx.a0; have M3b := M3.out.bx.a2; have M3c := M3.out.bx.b0; have M3d := M3.out.bx.b2; have M3e := M3.out.t0; clear hs)
            | (go_at_call 14; (with_reducible refine (Trail_join la' la' ca cb (.iface 60 (.pointer (some ⟨jb, 0, none⟩))) (.iface ux vx) (.iface uy vy) _ ?_ ?_ ?_ ?_).mono ?_); exact M3.out.jn; exact M3.out.cx; exact M3.out.cy; exact M3.out.bx.glob; rintro e x4 ⟨rfl, hs⟩; have M4 : Aside (JK w.heap.size (.slice xa 0 ccap) sa (.slice xb 0 dcap) sb ca cb w jb ob tg ux uy vx vy la' la' place x4) := M3.out.step hs; have M4a := M4.out.bx.a0; have M4b := M4.out.bx.a2; have M4c := M4.out.bx.b0; have M4d := M4.out.bx.b2; have M4e := M4.out.t0; clear hs)
            | (go_at_call 13; (with_reducible refine (Code_over ob la' ca (.iface 60 (.pointer (some ⟨jb, 0, none⟩))) (.iface ux vx) (.iface uy vy) _ ?_ ?_ ?_ ?_).mono ?_); exact M4.out.jn; exact M4.out.o2; exact M4.out.cx; exact M4.out.bx.glob; rintro e x5 ⟨rfl, hs⟩; have M5 : Aside (JK w.heap.size (.slice xa 0 ccap) sa (.slice xb 0 dcap) sb ca cb w jb ob tg ux uy vx vy la' la' place x5) := M4.out.step hs; have M5a := M5.out.bx.a0; have M5b := M5.out.bx.a2; have M5c := M5.out.bx.b0; have M5d := M5.out.bx.b2; have M5e := M5.out.t0; clear hs)
            | (go_at_call 8; (with_reducible refine (awake_any _ ?_).mono ?_); exact M5.out.bx.glob; rintro e x6 ⟨rfl, hs⟩; have M6 : Aside (JK w.heap.size (.slice xa 0 ccap) sa (.slice xb 0 dcap) sb ca cb w jb ob tg ux uy vx vy la' la' place x6) := M5.out.step hs; have M6a := M6.out.bx.a0; have M6b := M6.out.bx.a2; have M6c := M6.out.bx.b0; have M6d := M6.out.bx.b2; have M6e := M6.out.t0; clear hs))
          go_wp2
          go_ret
          exact ⟨rfl, M6.out.bx.bel⟩
end Go.Proofs.YtkhhdaekdledoaaDoor
