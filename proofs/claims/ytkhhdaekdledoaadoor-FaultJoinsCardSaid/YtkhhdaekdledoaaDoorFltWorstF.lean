/- fault.Worst over a slice of errors, each nil or one fault over a code, and the document's own Worst over codes, by contracts. -/
import Derived.Test.YtkhhdaekdledoaaDoorFltWst
import Derived.Test.YtkhhdaekdledoaaDoorFltMade
import Derived.Deep.RegionHeld3
import Derived.StillTactics
namespace Go.Proofs.YtkhhdaekdledoaaDoor
open Go.RowKit Go.Extern.Stop Go.Stop Go.Extern

/-- An error that is nil, or one fault over a code, in a block of its own. -/
def Elm (w : World) (e : Value) : Option (Int × Int) → Prop
  | none => e = .nilIface
  | some x => ∃ b, e = .iface 50 (.pointer (some ⟨b, 0, none⟩)) ∧ w.heap[b]? = some (.cells #[.string ⟨#[120]⟩, .int .i64 x.1, .iface 24 (.int .i64 x.2)] 53 (0, 0))
theorem lt_of_heap {w : World} {b : Nat} {o : Obj} (h : w.heap[b]? = some o) : b < w.heap.size := by
  rcases Nat.lt_or_ge b w.heap.size with h' | h'
  · exact h'
  · simp [Array.getElem?_eq_none h'] at h
theorem Elm.below {w w' : World} {e : Value} {x : Option (Int × Int)} (hb : Below w.heap.size w w') (h : Elm w e x) : Elm w' e x := by
  cases x with
  | none => exact h
  | some x =>
    obtain ⟨b, he, hh⟩ := h
    exact ⟨b, he, by rw [hb.block b (lt_of_heap hh)]; exact hh⟩
theorem Elm.chn {w : World} {e : Value} {x : Int × Int} (h : Elm w e (some x)) : Chn w e [(⟨#[120]⟩, x.1)] x.2 := by
  obtain ⟨b, he, hh⟩ := h
  refine ⟨b, _, he, ?_, ?_, ?_, rfl⟩ <;> simp [World.cell?, hh]

/-- v reads as these errors. -/
def ErrsV (w : World) (v : Value) (s : List (Option (Int × Int))) : Prop := ∃ (a : Option Addr) (cap : Nat), v = .slice a s.length cap ∧ s.length ≤ 1000 ∧ ∀ i (hi : i < s.length), ∃ b off e, a = some ⟨b, off, none⟩ ∧ w.cell? ⟨b, off + i, none⟩ = some e ∧ Elm w e s[i]
theorem ErrsV.below {w w' : World} {v : Value} {s : List (Option (Int × Int))} (hb : Below w.heap.size w w') (h : ErrsV w v s) : ErrsV w' v s := by
  obtain ⟨a, cap, h1, h2, h3⟩ := h
  refine ⟨a, cap, h1, h2, fun i hi => ?_⟩
  obtain ⟨b, off, e, ha, hc, he⟩ := h3 i hi
  exact ⟨b, off, e, ha, by rw [hb.cell (p := ⟨b, off + i, none⟩) (lt_of_cell hc)]; exact hc, he.below hb⟩

def WorstOf (w : World) (s : List (Option (Int × Int))) (e : Ending) (w' : World) : Prop := ∃ v, e = .returned v ∧ Elm w' v (s.foldl wsf none) ∧ Below w.heap.size w w'

set_option maxRecDepth 100000 in
set_option maxHeartbeats 8000000 in
theorem Worst_any (v : Value) (s : List (Option (Int × Int))) (w : World) (hg : Glob w) (h : ErrsV w v s) :
    Calls Tryd.prog 20 #[v] w (WorstOf w s) := by
  obtain ⟨a, cap, rfl, hm, hr⟩ := h
  have A : Aside (Glob w ∧ ∀ i (hi : i < s.length), ∃ b off e, a = some ⟨b, off, none⟩ ∧ w.cell? ⟨b, off + i, none⟩ = some e ∧ Elm w e s[i]) := ⟨hg, hr⟩
  clear hg hr
  go_enter Tryd.func20, Tryd.ntmps20
  go_wp2
  go_loopg [3, 4, 10] s.length (fun n x m i wr => ∃ k : Nat, k + n = s.length ∧ i = .int .i64 k ∧ Elm wr x ((s.take k).foldl wsf none) ∧ m = .int .i64 (mst ((s.take k).foldl wsf none)) ∧ Below w.heap.size w wr)
  case atStart => exact ⟨0, by omega, rfl, rfl, rfl, Below.refl _ _⟩
  case round =>
    obtain ⟨k, hk, rfl, hx, rfl, hB⟩ := hrel
    by_cases hlt : k < s.length
    · obtain ⟨b, off, e, rfl, hc, he⟩ := A.out.2 k hlt
      have hc' : wr.cell? ⟨b, off + k, none⟩ = some e := by rw [hB.cell (p := ⟨b, off + k, none⟩) (lt_of_cell hc)]; exact hc
      have he' := he.below hB
      have ht : s.take (k + 1) = s.take k ++ [s[k]] := by rw [List.take_succ_eq_append_getElem hlt]
      have hf : (s.take (k + 1)).foldl wsf none = wsf ((s.take k).foldl wsf none) s[k] := by rw [ht, List.foldl_append]; rfl
      have hmb := mst_bd ((s.take k).foldl wsf none)
      generalize hacc : (s.take k).foldl wsf none = acc at *
      generalize hsk : s[k] = sk at *
      clear hacc hsk ht hc he
      cases sk with
      | none =>
        obtain rfl : e = .nilIface := he'
        have C : Aside (_ = acc ∧ Elm wr _ acc ∧ Below w.heap.size w wr ∧ k + gk = s.length) := ⟨hf.trans (by cases acc <;> rfl), hx, hB, hk⟩
        clear hf hx hB hk
        go_wp2
        go_roundg (s.length - (k + 1))
        case measure => have := C.out.2.2.2; omega
        case rel => exact ⟨k + 1, by omega, by go_num, by rw [C.out.1]; exact C.out.2.1, by rw [C.out.1], C.out.2.2.1⟩
      | some x =>
        have hC := he'.chn
        have C : Aside (_ = wsf acc (some x) ∧ Elm wr _ acc ∧ Below w.heap.size w wr ∧ k + gk = s.length ∧ Elm wr e (some x)) := ⟨hf, hx, hB, hk, he'⟩
        obtain ⟨u, v, rfl⟩ := hC.held
        clear hf hx hB hk he'
        have D : Aside (Chn _ _ _ _) := hC
        clear hC
        go_wp2_with fail
        refine (Code_chain _ _ _ _ D.out (A.out.1.below C.out.2.2.1)).mono ?_
        rintro ev w1 ⟨rfl, hs⟩
        have E : Aside (Below _ _ _) := hs
        clear hs D
        go_wp2_with fail
        refine (weight_any _ _).mono ?_
        rintro ev w2 ⟨rfl, rfl⟩
        by_cases hgt : mst acc < wt x.2
        · go_wp2
          go_roundg (s.length - (k + 1))
          case measure => have := C.out.2.2.2.1; omega
          case rel => exact ⟨k + 1, by omega, by go_num, by rw [C.out.1, wsf_gt _ _ hgt]; exact C.out.2.2.2.2.below E.out, by rw [C.out.1, wsf_gt _ _ hgt]; rfl, C.out.2.2.1.trans (E.out.mono C.out.2.2.1.size)⟩
        · go_wp2
          go_roundg (s.length - (k + 1))
          case measure => have := C.out.2.2.2.1; omega
          case rel => exact ⟨k + 1, by omega, by go_num, by rw [C.out.1, wsf_le _ _ (by omega)]; exact C.out.2.1.below E.out, by rw [C.out.1, wsf_le _ _ (by omega)], C.out.2.2.1.trans (E.out.mono C.out.2.2.1.size)⟩
    · obtain rfl : k = s.length := by omega
      have C : Aside (Elm wr _ _ ∧ Below w.heap.size w wr) := ⟨by rw [List.take_length] at hx; exact hx, hB⟩
      clear hx hB
      go_wp2
      go_ret
      exact ⟨_, rfl, C.out.1, C.out.2⟩

/-- the index that the document's own Worst answers behind k codes -/
def rwi (l : List Int) (k : Nat) : Int := if k = 0 then -1 else rwn l k
theorem rwi_bd (l : List Int) (k : Nat) : -1 ≤ rwi l k ∧ rwi l k < k := by
  unfold rwi; split
  · omega
  · have := rwn_lt l k (by omega); omega

set_option maxRecDepth 100000 in
set_option maxHeartbeats 8000000 in
theorem refWorst_any (v : Value) (l : List Int) (w : World) (h : IntsV w v l) :
    Calls Tryd.prog 21 #[v] w fun ev w' => ev = .returned (.int .i64 (rwi l l.length)) ∧ Below w.heap.size w w' := by
  obtain ⟨a, cap, rfl, hm, hr⟩ := h
  unfold maxLen at hm
  have R : Aside (∀ i, i < l.length → ∃ b off, a = some ⟨b, off, none⟩ ∧ w.cell? ⟨b, off + i, none⟩ = some (.int .i64 (l.getD i 0))) := hr
  clear hr
  go_enter Tryd.func21, Tryd.ntmps21
  go_wp2
  go_loopg [3, 4] l.length (fun n x i wr => ∃ k : Nat, k + n = l.length ∧ i = .int .i64 k ∧ x = .int .i64 (rwi l k) ∧ Below w.heap.size w wr)
  case atStart => exact ⟨0, by omega, rfl, rfl, Below.refl _ _⟩
  case round =>
    obtain ⟨k, hk, rfl, rfl, hB⟩ := hrel
    by_cases hlt : k < l.length
    · obtain ⟨b, off, rfl, hc⟩ := R.out k hlt
      have hc' : wr.cell? ⟨b, off + k, none⟩ = some (.int .i64 (l.getD k 0)) := by rw [hB.cell (p := ⟨b, off + k, none⟩) (lt_of_cell hc)]; exact hc
      clear hc
      by_cases h0 : k = 0
      · have e1 : rwi l k = -1 := by rw [h0]; rfl
        rw [e1]
        have C : Aside (Below w.heap.size w wr ∧ k = 0 ∧ k + gk = l.length) := ⟨hB, h0, hk⟩
        clear hB e1 h0 hk
        go_wp2
        go_quiet (fail)
        go_wp2
        go_roundg (l.length - (k + 1))
        case measure => have := C.out.2.2; omega
        case rel => exact ⟨k + 1, by omega, by go_num, by have h := C.out.2.1; rw [h]; rfl, below_drewN C.out.1 _⟩
      · have hj := rwn_lt l k (by omega)
        have e1 : rwi l k = (rwn l k : Int) := by unfold rwi; rw [if_neg h0]
        have e2 : rwi l (k + 1) = if wt (l.getD (rwn l k) 0) < wt (l.getD k 0) then (k : Int) else (rwn l k : Int) := by
          unfold rwi; rw [if_neg (by omega), rwn_succ]
          by_cases hw : wt (l.getD (rwn l k) 0) < wt (l.getD k 0)
          · rw [if_pos (Or.inr hw), if_pos hw]
          · rw [if_neg (by omega), if_neg hw]
        rw [e1]
        clear e1
        obtain ⟨b2, off2, hb2, hd⟩ := R.out (rwn l k) (by omega)
        obtain ⟨rfl, rfl⟩ : b2 = b ∧ off2 = off := by simpa [eq_comm] using hb2
        have hd' : wr.cell? ⟨b2, off2 + rwn l k, none⟩ = some (.int .i64 (l.getD (rwn l k) 0)) := by rw [hB.cell (p := ⟨b2, off2 + rwn l k, none⟩) (lt_of_cell hd)]; exact hd
        clear hd hb2
        generalize l.getD (rwn l k) 0 = y at *
        generalize l.getD k 0 = x at *
        generalize hjn : rwn l k = j at *
        have C : Aside (Below w.heap.size w wr ∧ rwi l (k + 1) = (if wt y < wt x then (k : Int) else (j : Int)) ∧ k + gk = l.length) := ⟨hB, e2, hk⟩
        have hlc := lt_of_cell hc'
        have hld := lt_of_cell hd'
        have hjl : j < l.length := by omega
        clear hB e2 hk hjn
        go_wp2
        go_region_held3 (fun w' => w'.cell? ⟨b2, off2 + k, none⟩ = some (.int .i64 x) ∧ w'.cell? ⟨b2, off2 + j, none⟩ = some (.int .i64 y)) (first | exact ⟨by assumption, by assumption⟩ | go_keep)
          (first
            | (go_at_call 17; (with_reducible refine (refWeight_any x _).mono ?_); rintro e w2 ⟨rfl, hs⟩; have D : Aside (Below wr.heap.size wr w2) := (Below.refl _ _).drew.trans hs; have g1 : w2.cell? ⟨b2, off2 + k, none⟩ = some (.int .i64 x) := (D.out.cell (p := ⟨b2, off2 + k, none⟩) hlc).trans hc'; have g2 : w2.cell? ⟨b2, off2 + j, none⟩ = some (.int .i64 y) := (D.out.cell (p := ⟨b2, off2 + j, none⟩) hld).trans hd'; clear hs)
            | (go_at_call 17; (with_reducible refine (refWeight_any y _).mono ?_); rintro e w3 ⟨rfl, hs⟩; have E : Aside (Below wr.heap.size wr w3) := D.out.trans (hs.mono D.out.size); have g3 : w3.cell? ⟨b2, off2 + k, none⟩ = some (.int .i64 x) := (E.out.cell (p := ⟨b2, off2 + k, none⟩) hlc).trans hc'; have g4 : w3.cell? ⟨b2, off2 + j, none⟩ = some (.int .i64 y) := (E.out.cell (p := ⟨b2, off2 + j, none⟩) hld).trans hd'; clear hs))
        by_cases hw : wt y < wt x
        · go_wp2
          go_roundg (l.length - (k + 1))
          case measure => have := C.out.2.2; omega
          case rel => exact ⟨k + 1, by omega, by go_num, by rw [C.out.2.1, if_pos hw], C.out.1.trans (E.out.mono C.out.1.size)⟩
        · go_wp2
          go_roundg (l.length - (k + 1))
          case measure => have := C.out.2.2; omega
          case rel => exact ⟨k + 1, by omega, by go_num, by rw [C.out.2.1, if_neg (by omega)], C.out.1.trans (E.out.mono C.out.1.size)⟩
    · obtain rfl : k = l.length := by omega
      have C : Aside (Below w.heap.size w wr) := hB
      clear hB
      go_wp2
      go_ret
      exact ⟨rfl, C.out⟩
end Go.Proofs.YtkhhdaekdledoaaDoor
