/- What came in, for the frames of layer 16's laws by the door: steps, a byte. -/
import Derived.Test.YtkbfhpgcjljbbaaDoorRows
import Derived.Test.YtkbfhpgcjljbbaaDoorCmC
import Derived.Deep.SlicePairs
import Derived.SizedLaws
import Derived.Test.YtkbfhpgcjljbbaaDoorCmFews
namespace Go.Proofs.YtkbfhpgcjljbbaaDoor
set_option linter.unusedVariables false
set_option linter.unusedSimpArgs false
open Go.ChangeShapes Go.WideShapes Go.RowKit
theorem Tryd.own : ownKnob Tryd.prog.godebug = none := by kernel_rfl
theorem Tryd.laidOut : laidOutB Tryd.prog = true := by kernel_rfl

section
variable {H : Type} {enc : TypeId × Value → H} {w : World} {base : Nat} {spare : Nat → Bool} {held : Bool}
theorem list3 {α : Type} {l : List α} (h : l.length = 3) : ∃ a b c, l = [a, b, c] := by
  match l, h with
  | [a, b, c], _ => exact ⟨a, b, c, rfl⟩
theorem get_some {α : Type} {xs : List α} {n : Nat} (hl : xs.length = n) {i : Nat} (h : i < n) : ∃ y, xs[i]? = some y := ⟨_, List.getElem?_eq_getElem (by rw [hl]; exact h)⟩
theorem fld {fs : Array Field} {n : Nat} {cs : List Value} {xs : List (DataW H × List MemPlace)} (hf : ∀ (i : Nat) (f : Field), fs[i]? = some f → DataW.trod enc Tryd.prog w base spare held n f.type ((cs.drop f.offset).take (Tryd.prog.cellsOf f.type)) = xs[i]?)
    (i t o c : Nat) (ht : (fs[i]?).map (fun f => (f.type, f.offset)) = some (t, o)) (hc : Tryd.prog.cellsOf t = c) (hi : i < xs.length) : ∃ y, DataW.trod enc Tryd.prog w base spare held n t ((cs.drop o).take c) = some y ∧ xs[i]? = some y := by
  obtain ⟨f, h1, h2⟩ := Option.map_eq_some_iff.1 ht
  simp only [Prod.mk.injEq] at h2
  obtain ⟨rfl, rfl⟩ := h2
  subst hc
  exact ⟨_, (hf i f h1).trans (List.getElem?_eq_getElem hi), List.getElem?_eq_getElem hi⟩
theorem pick_list {α : Type} {Q : Nat → α → Prop} : ∀ len : Nat, (∀ i, i < len → ∃ d, Q i d) → ∃ ds : List α, ds.length = len ∧ ∀ i d, ds[i]? = some d → Q i d
  | 0, _ => ⟨[], rfl, fun i d h => by simp at h⟩
  | len + 1, h => by
    obtain ⟨ds, h1, h2⟩ := pick_list len (fun i hi => h i (by omega))
    obtain ⟨d, hd⟩ := h len (by omega)
    refine ⟨ds ++ [d], by simp [h1], fun i e he => ?_⟩
    by_cases hi : i < len
    · rw [List.getElem?_append_left (by omega)] at he
      exact h2 i e he
    · rw [List.getElem?_append_right (by omega), h1] at he
      have : i - len = 0 := by
        have := (List.getElem?_eq_some_iff.1 he).1
        simp at this; omega
      rw [this] at he
      obtain rfl : d = e := by simpa using he
      rw [show i = len by omega]; exact hd
theorem sv_wide {α : Type} (E : Lay α) {t : TypeId} (ht : Tryd.prog.underlying t = some (.slice E.ty)) (hc : Tryd.prog.cellsOf E.ty = E.sz) (hz : 0 < E.sz) (P : α → Prop)
    (hp : ∀ (fuel : Nat) (cs : List Value) (x : DataW H × List MemPlace), DataW.trod enc Tryd.prog w base spare held fuel E.ty cs = some x → ∃ d, cs = E.enc d ∧ P d) {fuel : Nat} {cs : List Value} {x : DataW H × List MemPlace} (h : DataW.trod enc Tryd.prog w base spare held fuel t cs = some x) :
    ∃ (a : Option Addr) (c : Nat) (ds : List α), cs = [.slice a ds.length c] ∧ SV E w (.slice a ds.length c) ds ∧ ∀ d ∈ ds, P d := by
  rcases Go.Deep.open_slice ht h with ⟨rfl, -⟩ | ⟨a, len, cap, m, n, D, Pl, rfl, -, hl, hm, hmm, -, hx⟩
  · exact ⟨none, 0, [], rfl, SV.nil _ _, fun d hd => by cases hd⟩
  · have hle : len ≤ m := by rw [hmm]; split <;> omega
    have spot : 0 < len → a.spot = none := fun h0 => by
      obtain ⟨cs', h1, -⟩ := hx 0 (by omega)
      rw [hc] at h1
      obtain ⟨-, h2, h3⟩ := World.cells?_some h1
      obtain ⟨u, hu⟩ := get_some h2 (i := 0) hz
      have := h3 0 hz
      rw [hu] at this
      have := World.cell?_spot this
      simpa [Addr.add] using this
    obtain ⟨ds, h1, h2⟩ := pick_list (Q := fun i (d : α) => P d ∧ ∀ j u, (E.enc d)[j]? = some u → w.cell? ⟨a.block, a.off + i * E.sz + j, none⟩ = some u) len (fun i hi => by
      obtain ⟨cs', g1, g2⟩ := hx i (by omega)
      rw [hc] at g1
      obtain ⟨-, g3, g4⟩ := World.cells?_some g1
      obtain ⟨d, rfl, hP⟩ := hp _ _ _ g2
      refine ⟨d, hP, fun j u hu => ?_⟩
      have hj : j < E.sz := by have := (List.getElem?_eq_some_iff.1 hu).1; rw [g3] at this; exact this
      have := g4 j hj
      rw [hu] at this
      rw [← this]
      obtain ⟨b, off, sp⟩ := a
      have hs : sp = none := spot (by omega)
      subst hs
      rw [Go.WideShapes.add_plain, Go.WideShapes.add_plain])
    refine ⟨some a, cap, ds, by rw [h1], ⟨some a, cap, by rw [h1], by rw [h1]; exact hl, hm, fun h => (by cases h), a.block, a.off, fun hne x hx => ?_, fun j u hu => ?_⟩, fun d hd => ?_⟩
    · rw [h1] at hne
      obtain rfl := Option.some.inj hx
      have hs := spot (by omega)
      obtain ⟨b, off, sp⟩ := a
      simp only at hs
      subst hs
      rfl
    · have hj : j < len * E.sz := by
        have := (List.getElem?_eq_some_iff.1 hu).1
        rw [E.flat_len, h1] at this; exact this
      have hq : j / E.sz < len := Nat.div_lt_of_lt_mul (by rw [Nat.mul_comm]; exact hj)
      obtain ⟨d, hd⟩ := get_some h1 hq
      have e := E.flat_at _ (j / E.sz) (j % E.sz) _ hd (Nat.mod_lt _ hz)
      rw [Nat.div_add_mod' j E.sz, hu] at e
      have := (h2 _ _ hd).2 (j % E.sz) u e.symm
      rw [← this, Nat.add_assoc, Nat.div_add_mod' j E.sz]
    · obtain ⟨i, hi, hd'⟩ := List.getElem_of_mem hd
      exact (h2 i d (by rw [List.getElem?_eq_getElem hi, hd'])).1
theorem pick_map {α β : Type} (f : β → α) {R : β → Prop} : ∀ xs : List α, (∀ x ∈ xs, ∃ y, f y = x ∧ R y) → ∃ ys : List β, xs = ys.map f ∧ ∀ y ∈ ys, R y
  | [], _ => ⟨[], rfl, fun y h => by cases h⟩
  | x :: xs, h => by
    obtain ⟨y, rfl, hy⟩ := h x (by simp)
    obtain ⟨ys, h1, h2⟩ := pick_map f xs (fun z hz => h z (by simp [hz]))
    exact ⟨y :: ys, by rw [h1]; rfl, fun z hz => (List.mem_cons.1 hz).elim (fun e => e ▸ hy) (h2 z)⟩
theorem pick_each {α β : Type} {R : α → β → Prop} : ∀ xs : List α, (∀ x ∈ xs, ∃ y, R x y) → ∃ ys : List β, xs.length = ys.length ∧ ∀ (j : Nat) (x : α) (y : β), xs[j]? = some x → ys[j]? = some y → R x y
  | [], _ => ⟨[], rfl, fun j x y h => by simp at h⟩
  | x :: xs, h => by
    obtain ⟨y, hy⟩ := h x (by simp)
    obtain ⟨ys, h1, h2⟩ := pick_each xs (fun z hz => h z (by simp [hz]))
    refine ⟨y :: ys, by simp [h1], fun j a b ha hb => ?_⟩
    cases j with
    | zero =>
      obtain rfl : x = a := by simpa using ha
      obtain rfl : y = b := by simpa using hb
      exact hy
    | succ j => exact h2 j a b (by simpa using ha) (by simpa using hb)
set_option maxRecDepth 100000 in
theorem wr_of (fuel : Nat) (cs : List Value) (x : DataW H × List MemPlace) (h : DataW.trod enc Tryd.prog w base spare held fuel 79 cs = some x) :
    ∃ d : ByteArray × ByteArray × Bool, cs = [.string d.1, .string d.2.1, .bool d.2.2] ∧ d.1.size ≤ maxLen ∧ d.2.1.size ≤ maxLen := by
  obtain ⟨xs, n, -, -, hl, hlen, hf⟩ := DataW.trod_struct Tryd.underlying79 h
  have cT : Tryd.prog.cellsOf 79 = 3 := by kernel_rfl
  have cS : Tryd.prog.cellsOf 9 = 1 := by kernel_rfl
  have cB : Tryd.prog.cellsOf 4 = 1 := by kernel_rfl
  rw [cT] at hl
  obtain ⟨a0, a1, a2, rfl⟩ := list3 hl
  have hn : xs.length = 3 := hlen
  obtain ⟨y0, f0, -⟩ := fld hf 0 9 0 1 rfl cS (by omega)
  obtain ⟨y1, f1, -⟩ := fld hf 1 9 1 1 rfl cS (by omega)
  obtain ⟨y2, f2, -⟩ := fld hf 2 4 2 1 rfl cB (by omega)
  simp only [List.drop_zero, List.drop_succ_cons, List.take_succ_cons, List.take_zero] at f0 f1 f2
  obtain ⟨s, g0, -, hs⟩ := DataW.trod_string Tryd.underlying9 f0
  obtain ⟨t, g1, -, ht⟩ := DataW.trod_string Tryd.underlying9 f1
  obtain ⟨u, g2, -⟩ := DataW.trod_bool Tryd.underlying4 f2
  simp only [List.cons.injEq, and_true] at g0 g1 g2
  subst g0 g1 g2
  exact ⟨(s, t, u), rfl, hs, ht⟩
set_option maxRecDepth 100000 in
theorem wrs_of {fuel : Nat} {cs : List Value} {x : DataW H × List MemPlace} (h : DataW.trod enc Tryd.prog w base spare held fuel 34 cs = some x) :
    ∃ (a : Option Addr) (c : Nat) (xs : List Wr), cs = [.slice a xs.length c] ∧ WrV lDw w (.slice a xs.length c) xs := by
  have cT : Tryd.prog.cellsOf 79 = 3 := by kernel_rfl
  obtain ⟨a, c, xs, e, sv, hP⟩ := sv_wide lDw Tryd.underlying34 cT (by decide) (fun d => d.1.size ≤ maxLen ∧ d.2.1.size ≤ maxLen) (fun f cs x h => wr_of f cs x h) h
  exact ⟨a, c, xs, e, sv, hP⟩
set_option maxRecDepth 100000 in
theorem wrs_in {r : Reach} {b0 : Nat} {v : Value} {d : DataW H} {p : List MemPlace} (hv : Value.okWide Tryd.prog w r b0 34 v) (h : DataW.Trod enc Tryd.prog w base spare held 34 v d p) :
    ∃ xs, WrV lDw w v xs := by
  obtain ⟨fuel, hf⟩ := h
  obtain ⟨a0, len0, cap0, rfl⟩ := okWide_slice Tryd.underlying34 hv
  obtain ⟨a, c, xs, e, hw⟩ := wrs_of hf
  have e' : Value.slice a0 len0 cap0 = .slice a xs.length c := by simpa [Value.cells] using e
  exact ⟨xs, e' ▸ hw⟩
end

set_option linter.unusedVariables false
set_option linter.unusedSimpArgs false
open Go.ChangeShapes Go.WideShapes Go.RowKit

section
variable {H : Type} {enc : TypeId × Value → H} {w : World} {base : Nat} {spare : Nat → Bool} {held : Bool}
theorem list5 {α : Type} {l : List α} (h : l.length = 5) : ∃ a b c d e, l = [a, b, c, d, e] := by
  match l, h with
  | [a, b, c, d, e], _ => exact ⟨a, b, c, d, e, rfl⟩
set_option maxRecDepth 100000 in
theorem do_of (fuel : Nat) (cs : List Value) (x : DataW H × List MemPlace) (h : DataW.trod enc Tryd.prog w base spare held fuel 36 cs = some x) :
    ∃ (v n th : Int) (r : Bool) (a : Option Addr) (c : Nat) (xs : List Wr), cs = [.int .i64 v, .int .i64 n, .int .i64 th, .bool r, .slice a xs.length c] ∧ WrV lDw w (.slice a xs.length c) xs ∧ -9223372036854775808 ≤ n ∧ n ≤ 9223372036854775807 := by
  obtain ⟨xs, n, -, -, hl, hlen, hf⟩ := DataW.trod_struct Tryd.underlying36 h
  have cT : Tryd.prog.cellsOf 36 = 5 := by kernel_rfl
  have cI : Tryd.prog.cellsOf 3 = 1 := by kernel_rfl
  have cB : Tryd.prog.cellsOf 4 = 1 := by kernel_rfl
  have cL : Tryd.prog.cellsOf 34 = 1 := by kernel_rfl
  rw [cT] at hl
  obtain ⟨a0, a1, a2, a3, a4, rfl⟩ := list5 hl
  have hn : xs.length = 5 := hlen
  obtain ⟨y0, f0, -⟩ := fld hf 0 3 0 1 rfl cI (by omega)
  obtain ⟨y1, f1, -⟩ := fld hf 1 3 1 1 rfl cI (by omega)
  obtain ⟨y2, f2, -⟩ := fld hf 2 3 2 1 rfl cI (by omega)
  obtain ⟨y3, f3, -⟩ := fld hf 3 4 3 1 rfl cB (by omega)
  obtain ⟨y4, f4, -⟩ := fld hf 4 34 4 1 rfl cL (by omega)
  simp only [List.drop_zero, List.drop_succ_cons, List.take_succ_cons, List.take_zero] at f0 f1 f2 f3 f4
  obtain ⟨v, g0, -, -⟩ := DataW.trod_int Tryd.underlying3 f0
  obtain ⟨n, g1, -, hn1⟩ := DataW.trod_int Tryd.underlying3 f1
  obtain ⟨th, g2, -, -⟩ := DataW.trod_int Tryd.underlying3 f2
  obtain ⟨r, g3, -⟩ := DataW.trod_bool Tryd.underlying4 f3
  obtain ⟨a, c, ws, g4, hw⟩ := wrs_of f4
  simp only [List.cons.injEq, and_true] at g0 g1 g2 g3 g4
  subst g0 g1 g2 g3 g4
  simp only [Lit.wf, Bool.and_eq_true, decide_eq_true_eq] at hn1
  exact ⟨v, n, th, r, a, c, ws, rfl, hw, hn1⟩
set_option maxRecDepth 100000 in
theorem dos_in {r : Reach} {b0 : Nat} {v : Value} {d : DataW H} {p : List MemPlace} (hv : Value.okWide Tryd.prog w r b0 22 v) (h : DataW.Trod enc Tryd.prog w base spare held 22 v d p) :
    ∃ ds : List DoD, DosV w v ds := by
  obtain ⟨fuel, hf⟩ := h
  obtain ⟨a0, len0, cap0, rfl⟩ := okWide_slice Tryd.underlying22 hv
  have cT : Tryd.prog.cellsOf 36 = 5 := by kernel_rfl
  obtain ⟨a, c, rs, e, sv, hP⟩ := sv_wide lDo Tryd.underlying22 cT (by decide) (fun r => ∃ d : DoD, r.1 = d.verb ∧ r.2.1 = d.n ∧ r.2.2.1 = d.th ∧ r.2.2.2.1 = d.r ∧ WrV lDw w r.2.2.2.2.v d.xs ∧ -9223372036854775808 ≤ d.n ∧ d.n ≤ 9223372036854775807) (fun f cs x h => by
    obtain ⟨v, n, th, r, a, c, xs, e, hw, h1, h2⟩ := do_of f cs x h
    exact ⟨(v, n, th, r, a, xs.length, c), e, ⟨v, n, th, r, xs⟩, rfl, rfl, rfl, rfl, hw, h1, h2⟩) hf
  have e' : Value.slice a0 len0 cap0 = .slice a rs.length c := by simpa [Value.cells] using e
  obtain ⟨ds, h1, h2⟩ := pick_each rs hP
  exact ⟨ds, rs, e' ▸ sv, h1, h2⟩
end
end Go.Proofs.YtkbfhpgcjljbbaaDoor
