/- The laws' own Few over chains (layer 8): what it says where it answers true: at most 40 records, of 100 entries in all. -/
import Derived.Test.YtkkmfacngmginaaLfChain
namespace Go.Proofs.Ytkkmfacngmginaa
open Go.RowKit

theorem min_run3 (x : Nat) (w : World) (ts : Array TypeId) (t : TypeId) : (Builtin.min_ ts t #[.int .i64 (x : Int), .int .i64 3001]).run Try.prog w = .ok (.int .i64 ((min x 3001 : Nat) : Int)) w := by
  rw [run_min_int2]
  congr 2
  by_cases h : (3001 : Int) < (x : Int)
  · rw [if_pos h]; omega
  · rw [if_neg h]; omega
def sumE (ds : List RcD) : Nat := (ds.map fun d => min d.ents.length 101).sum
theorem sumE_step {ds : List RcD} {k : Nat} {d : RcD} (h : ds[k]? = some d) : sumE (ds.take (k + 1)) = sumE (ds.take k) + min d.ents.length 101 := by
  have hk : k < ds.length := (List.getElem?_eq_some_iff.1 h).1
  rw [List.getElem?_eq_getElem hk] at h
  rw [List.take_succ_eq_append_getElem hk, Option.some.inj h]
  simp [sumE]
theorem sumE_le (ds : List RcD) : sumE ds ≤ 101 * ds.length := by
  induction ds with
  | nil => simp [sumE]
  | cons d ds ih => simp only [sumE, List.map_cons, List.sum_cons, List.length_cons] at *; omega
theorem sumE_all {ds : List RcD} (h : sumE ds ≤ 100) : (ds.map fun d => d.ents.length).sum ≤ 100 ∧ ∀ d ∈ ds, d.ents.length ≤ 100 := by
  have e : ∀ ds : List RcD, sumE ds ≤ 100 → (ds.map fun d => d.ents.length).sum = sumE ds ∧ ∀ d ∈ ds, d.ents.length ≤ 100 := fun ds => by
    induction ds with
    | nil => intro _; exact ⟨rfl, fun d hd => by cases hd⟩
    | cons d ds ih =>
      intro h
      simp only [sumE, List.map_cons, List.sum_cons] at h ih ⊢
      obtain ⟨i1, i2⟩ := ih (by omega)
      refine ⟨by omega, fun x hx => ?_⟩
      rcases List.mem_cons.1 hx with rfl | hx
      · omega
      · exact i2 x hx
  obtain ⟨e1, e2⟩ := e ds h
  exact ⟨by omega, e2⟩
/-- what Few says of a chain -/
def FewPost (ok : Prop) (w : World) (ev : Ending) (w' : World) : Prop := ∃ b, ev = .returned (.bool b) ∧ (b = true → ok) ∧ Below w.heap.size w w'
theorem FewPost.no {ok : Prop} {w w' : World} {ev : Ending} (h : ev = .returned (.bool false)) (hb : Below w.heap.size w w') : FewPost ok w ev w' := ⟨false, h, fun h => (by cases h), hb⟩
theorem FewPost.any {ok : Prop} {w w' : World} {b : Bool} (h : ok) (hb : Below w.heap.size w w') : FewPost ok w (.returned (.bool b)) w' := ⟨b, rfl, fun _ => h, hb⟩
def FewI (ds : List RcD) : Prop := ds.length ≤ 40 ∧ (ds.map fun d => d.ents.length).sum ≤ 100 ∧ ∀ d ∈ ds, d.ents.length ≤ 100
set_option maxRecDepth 100000 in
set_option maxHeartbeats 4000000 in
theorem fewI_any (v : Value) (ds : List RcD) (w : World) (hv : ChW w v ds) :
    Calls Try.prog 7 #[v] w fun ev w' => FewPost (FewI ds) w ev w' := by
  have V := Lib.hid hv
  obtain ⟨a, c, rfl, hlc, hcm⟩ := hv.sv.lenform
  obtain ⟨n, hn⟩ : ∃ n, ds.length = n := ⟨_, rfl⟩
  have LN := Lib.hid hn
  rw [hn] at V hlc ⊢
  obtain ⟨m, hm, hm1, hm2⟩ : ∃ m, m = min n 41 ∧ m ≤ n ∧ m ≤ 41 := ⟨_, rfl, by omega, by omega⟩
  have MM := Lib.hid hm
  unfold maxLen at hcm
  clear hv hn hm
  go_enter Try.func7, Try.ntmps7
  go_wp2
  go_loopg [3, 4, 5] m (fun r nn bb i wz => ∃ k B : Nat, k + r = m ∧ i = .int .i64 k ∧ nn = .int .i64 (sumE (ds.take k)) ∧ bb = .int .i64 B ∧ B ≤ 400000 * k ∧ Below w.heap.size w wz)
  case atStart => exact ⟨0, 0, by omega, rfl, rfl, rfl, by omega, Below.refl _ _⟩
  case round =>
    obtain ⟨k, B, hk, rfl, rfl, rfl, hBk, hB⟩ := hrel
    have A := Lib.hid (show Below w.heap.size w wr ∧ k + gk = m from ⟨hB, hk⟩)
    clear hB
    by_cases hlt : k < m
    · obtain ⟨b, off, ha⟩ := V.out.sv.addr (by rw [LN.out]; omega)
      subst ha
      obtain ⟨d, hx⟩ : ∃ d, ds[k]? = some d := ⟨_, List.getElem?_eq_getElem (by rw [LN.out]; omega)⟩
      have DV := Lib.hid (V.out.all d (List.mem_of_getElem? hx))
      have T := Lib.hid (sumE_step hx)
      have SB := Lib.hid (show sumE (ds.take k) ≤ 101 * 41 by have := sumE_le (ds.take k); rw [List.length_take] at this; omega)
      have CE := Lib.hid (show ∀ wz, Below w.heap.size w wz → wz.cell? ⟨b, off + k * 15 + 6, none⟩ = some d.en from fun wz hz => cell_step (V.out.sv.cellAt (j := 6) hx rfl) hz)
      have x7 := cell_step (V.out.sv.cellAt (j := 7) hx rfl) A.out.1
      have x1 := cell_step (V.out.sv.cellAt (j := 1) hx rfl) A.out.1
      have x2 := cell_step (V.out.sv.cellAt (j := 2) hx rfl) A.out.1
      have x12 := cell_step (V.out.sv.cellAt (j := 12) hx rfl) A.out.1
      simp only [lRec] at x7 x1 x2 x12
      clear hx
      have j1 : (0 : Int) ≤ (k : Int) := by omega
      have j2 : (k : Int) < (n : Int) := by omega
      have g1 : decide (k < n) = true := decide_eq_true (by omega)
      have g2 : decide ((k : Int) ≤ 40) = true := decide_eq_true (by omega)
      have g3 : decide (k ≤ 40) = true := decide_eq_true (by omega)
      have m1 := min_run3 d.sc.key.size
      have m2 := min_run3 d.sc.low.size
      have m3 := min_run3 d.sc.high.size
      have m4 := min_run3 d.sc.hk.size
      have p1 : min d.sc.key.size 3001 ≤ 3001 := by omega
      have p2 : min d.sc.low.size 3001 ≤ 3001 := by omega
      have p3 : min d.sc.high.size 3001 ≤ 3001 := by omega
      have p4 : min d.sc.hk.size 3001 ≤ 3001 := by omega
      generalize d.sc.key = s1 at *
      generalize d.sc.low = s2 at *
      generalize d.sc.high = s3 at *
      generalize d.sc.hk = s4 at *
      generalize min s1.size 3001 = q1 at *
      generalize min s2.size 3001 = q2 at *
      generalize min s3.size 3001 = q3 at *
      generalize min s4.size 3001 = q4 at *
      have z1 : IntKind.i64.wrap ((q1 : Int) + (q2 : Int)) = (q1 : Int) + (q2 : Int) := Go.IntWalk.i64_in _ (by omega)
      have z2 : IntKind.i64.wrap ((q1 : Int) + (q2 : Int) + (q3 : Int)) = (q1 : Int) + (q2 : Int) + (q3 : Int) := Go.IntWalk.i64_in _ (by omega)
      have z3 : IntKind.i64.wrap ((q1 : Int) + (q2 : Int) + (q3 : Int) + (q4 : Int)) = (q1 : Int) + (q2 : Int) + (q3 : Int) + (q4 : Int) := Go.IntWalk.i64_in _ (by omega)
      have z4 : IntKind.i64.wrap ((B : Int) + ((q1 : Int) + (q2 : Int) + (q3 : Int) + (q4 : Int))) = (B : Int) + ((q1 : Int) + (q2 : Int) + (q3 : Int) + (q4 : Int)) := Go.IntWalk.i64_in _ (by omega)
      go_wp2
      go_quiet (fail)
      go_wp2
      have A1 := Lib.hid (show Below w.heap.size w (wr.drewN nq) from below_drewN A.out.1 _)
      have KG := Lib.hid A.out.2
      generalize wr.drewN nq = wm at *
      clear x7 x1 x2 x12
      obtain ⟨S, hS⟩ : ∃ S, sumE (ds.take k) = S := ⟨_, rfl⟩
      rw [hS] at T SB ⊢
      obtain ⟨N, hN⟩ : ∃ N, B + (q1 + q2 + q3 + q4) = N := ⟨_, rfl⟩
      have hNi : (B : Int) + ((q1 : Int) + (q2 : Int) + (q3 : Int) + (q4 : Int)) = (N : Int) := by omega
      rw [hNi]
      obtain ⟨M, hM, hM1, hM2⟩ : ∃ M, M = min d.ents.length 101 ∧ M ≤ d.ents.length ∧ M ≤ 101 := ⟨_, rfl, by omega, by omega⟩
      have MH := Lib.hid hM
      have NB := Lib.hid (show N ≤ 400000 * k + 12004 by omega)
      have SS := SB.out
      clear hNi hN z1 z2 z3 z4 hM p1 p2 p3 p4 m1 m2 m3 m4 hS g1 g2 g3
      go_loopg [3, 4, 6] M (fun r nn bb kk wz => ∃ q D : Nat, q + r = M ∧ kk = .int .i64 q ∧ nn = .int .i64 ((S + q : Nat) : Int) ∧ bb = .int .i64 D ∧ D ≤ N + 3001 * q ∧ Below w.heap.size w wz)
      case atStart => exact ⟨0, N, by omega, rfl, by simp, rfl, by omega, A1.out⟩
      case round =>
        obtain ⟨q, D, hq, rfl, rfl, rfl, hD, hB⟩ := hrel
        have A2 := Lib.hid (show Below w.heap.size w wr ∧ q + gk = M from ⟨hB, hq⟩)
        have x6 := CE.out wr hB
        clear hB
        by_cases hqlt : q < M
        · obtain ⟨b2, o2, ha2⟩ := DV.out.ents.addr (by omega)
          obtain ⟨e, hx⟩ : ∃ e, d.ents[q]? = some e := ⟨_, List.getElem?_eq_getElem (by omega)⟩
          have DV2 := DV.out.ents
          unfold RcD.en at DV2 x6
          rw [ha2] at DV2 x6
          have y0 := cell_step (DV2.cellAt (j := 0) hx rfl) A2.out.1
          simp only [lEnt, Nat.add_zero] at y0
          obtain ⟨z, hz⟩ : ∃ z, d.ents.length = z := ⟨_, rfl⟩
          rw [hz] at x6
          have j3 : (0 : Int) ≤ (q : Int) := by omega
          have j4 : (q : Int) < (z : Int) := by omega
          have g1 : decide (q < z) = true := decide_eq_true (by omega)
          have g2 : decide ((q : Int) ≤ 100) = true := decide_eq_true (by omega)
          have g3 : decide (q ≤ 100) = true := decide_eq_true (by omega)
          have m1 := min_run3 e.1.size
          have p1 : min e.1.size 3001 ≤ 3001 := by omega
          clear hx DV2 hz
          generalize e.1 = s5 at *
          generalize min s5.size 3001 = q5 at *
          have z1 : IntKind.i64.wrap ((D : Int) + (q5 : Int)) = (D : Int) + (q5 : Int) := Go.IntWalk.i64_in _ (by have := NB.out; omega)
          have z2 : IntKind.i64.wrap (((S + q : Nat) : Int) + 1) = ((S + q : Nat) : Int) + 1 := Go.IntWalk.i64_in _ (by omega)
          go_wp2
          go_roundg (M - (q + 1))
          case measure => have := A2.out.2; omega
          case rel => exact ⟨q + 1, D + q5, by omega, by go_num, by go_num, by go_num, by omega, A2.out.1⟩
        · have hqM : q = M := by omega
          have x6' := x6
          unfold RcD.en at x6
          have F := Lib.hid (show sumE (ds.take (k + 1)) = S + q ∧ D ≤ 400000 * (k + 1) from ⟨by rw [T.out, hqM, ← MH.out], by have := NB.out; omega⟩)
          have g1 : (decide (q < d.ents.length) && decide (q ≤ 100)) = false := by
            rw [Bool.and_eq_false_iff]
            by_cases h : q < d.ents.length
            · right; exact decide_eq_false (by have := MH.out; omega)
            · left; exact decide_eq_false h
          clear x6'
          generalize d.ents.length = z at *
          by_cases hz : q < z
          · have h2 : ¬ q ≤ 100 := by have := MH.out; omega
            go_wp2
            go_roundg (m - (k + 1))
            case measure => have := KG.out; omega
            case rel => exact ⟨k + 1, D, by have := KG.out; omega, by go_num, by rw [F.out.1]; go_num, rfl, F.out.2, A2.out.1⟩
          · go_wp2
            go_roundg (m - (k + 1))
            case measure => have := KG.out; omega
            case rel => exact ⟨k + 1, D, by have := KG.out; omega, by go_num, by rw [F.out.1]; go_num, rfl, F.out.2, A2.out.1⟩
    · have hkm : k = m := by omega
      by_cases h40 : n ≤ 40
      · have hkn : k = n := by have := MM.out; omega
        have e : ds.take k = ds := List.take_of_length_le (by rw [LN.out]; omega)
        rw [e]
        have F := Lib.hid (show sumE ds ≤ 100 → (ds.map fun d => d.ents.length).sum ≤ 100 ∧ ∀ d ∈ ds, d.ents.length ≤ 100 from sumE_all)
        subst hkn
        clear e hlt hm1 hm2 hkm hk
        generalize sumE ds = S at *
        by_cases h2 : S ≤ 100
        · have F2 := Lib.hid (show FewI ds from ⟨by rw [LN.out]; exact h40, F.out h2⟩)
          go_wp2
          go_ret
          exact FewPost.any F2.out A.out.1
        · go_wp2
          go_ret
          exact FewPost.no (retB (by simp; try omega)) A.out.1
      · have e : k = 41 := by have := MM.out; omega
        clear hm1 hm2 hkm hk hlt
        subst e
        generalize sumE (ds.take 41) = S at *
        by_cases h41 : 41 < n
        · go_wp2
          go_ret
          exact FewPost.no (retB (by simp; try omega)) A.out.1
        · go_wp2
          go_ret
          exact FewPost.no (retB (by simp; try omega)) A.out.1
end Go.Proofs.Ytkkmfacngmginaa
