/- What the frames of layer 6's laws share: the program's own settings, its layout; steps that came in. -/
import Derived.Test.YtocigedgicgonaaDoorRows
import Derived.Test.YtocigedgicgonaaDoorEpDo
import Derived.Deep.SlicePairs
import Derived.SizedLaws
namespace Go.Proofs.YtocigedgicgonaaDoor
open Go.ChangeShapes Go.WideShapes Go.RowKit
theorem Tryd.own : ownKnob Tryd.prog.godebug = none := by kernel_rfl
theorem Tryd.laidOut : laidOutB Tryd.prog = true := by kernel_rfl

section
variable {H : Type} {enc : TypeId × Value → H} {w : World} {base : Nat} {spare : Nat → Bool} {held : Bool}
def intOfV : Value → Int | .int _ a => a | _ => 0
theorem get_some {α : Type} {xs : List α} {n : Nat} (hl : xs.length = n) {i : Nat} (h : i < n) : ∃ y, xs[i]? = some y := ⟨_, List.getElem?_eq_getElem (by rw [hl]; exact h)⟩
theorem fld {fs : Array Field} {n : Nat} {cs : List Value} {xs : List (DataW H × List MemPlace)} (hf : ∀ (i : Nat) (f : Field), fs[i]? = some f → DataW.trod enc Tryd.prog w base spare held n f.type ((cs.drop f.offset).take (Tryd.prog.cellsOf f.type)) = xs[i]?)
    (i t o c : Nat) (ht : (fs[i]?).map (fun f => (f.type, f.offset)) = some (t, o)) (hc : Tryd.prog.cellsOf t = c) (hi : i < xs.length) : ∃ y, DataW.trod enc Tryd.prog w base spare held n t ((cs.drop o).take c) = some y ∧ xs[i]? = some y := by
  obtain ⟨f, h1, h2⟩ := Option.map_eq_some_iff.1 ht
  simp only [Prod.mk.injEq] at h2
  obtain ⟨rfl, rfl⟩ := h2
  subst hc
  exact ⟨_, (hf i f h1).trans (List.getElem?_eq_getElem hi), List.getElem?_eq_getElem hi⟩
theorem list3 {α : Type} {l : List α} (h : l.length = 3) : ∃ a0 a1 a2, l = [a0, a1, a2] := by
  match l, h with
  | [a0, a1, a2], _ => exact ⟨a0, a1, a2, rfl⟩
/-- a step -/
structure DoD where
  verb : Int
  t : Int
  a : Int
def DoD.cells (d : DoD) : List Value := [.int .i64 d.verb, .int .i64 d.t, .int .i64 d.a]
set_option maxRecDepth 100000 in
theorem do_of {fuel : Nat} {cs : List Value} {x : DataW H × List MemPlace} (h : DataW.trod enc Tryd.prog w base spare held fuel 32 cs = some x) : ∃ d : DoD, cs = d.cells := by
  obtain ⟨xs, n, -, rfl, hl, hlen, hf⟩ := DataW.trod_struct Tryd.underlying32 h
  have c3 : Tryd.prog.cellsOf 32 = 3 := by kernel_rfl
  have cI : Tryd.prog.cellsOf 3 = 1 := by kernel_rfl
  rw [c3] at hl
  obtain ⟨a0, a1, a2, rfl⟩ := list3 hl
  have hn : xs.length = 3 := hlen
  obtain ⟨y0, f0, -⟩ := fld hf 0 3 0 1 rfl cI (by omega)
  obtain ⟨y1, f1, -⟩ := fld hf 1 3 1 1 rfl cI (by omega)
  obtain ⟨y2, f2, -⟩ := fld hf 2 3 2 1 rfl cI (by omega)
  simp only [List.drop_zero, List.drop_succ_cons, List.take_succ_cons, List.take_zero] at f0 f1 f2
  obtain ⟨v, g0, -, -⟩ := DataW.trod_int Tryd.underlying3 f0
  obtain ⟨t, g1, -, -⟩ := DataW.trod_int Tryd.underlying3 f1
  obtain ⟨a, g2, -, -⟩ := DataW.trod_int Tryd.underlying3 f2
  simp only [List.cons.injEq, and_true] at g0 g1 g2
  subst g0 g1 g2
  exact ⟨⟨v, t, a⟩, rfl⟩
set_option maxRecDepth 100000 in
theorem do_in {r : Reach} {b0 : Nat} {v : Value} {d : DataW H} {p : List MemPlace} (hv : Value.okWide Tryd.prog w r b0 32 v) (h : DataW.Trod enc Tryd.prog w base spare held 32 v d p) :
    ∃ d : DoD, v = doVal d.verb d.t d.a := by
  obtain ⟨cs, rfl, -⟩ := okWide_struct Tryd.underlying32 hv
  obtain ⟨fuel, hf⟩ := h
  obtain ⟨d, e⟩ := do_of hf
  refine ⟨d, ?_⟩
  have : cs = d.cells.toArray := by rw [← e]; simp [Value.cells]
  rw [this]; rfl
end
theorem DoD.cells_one (d : DoD) : ∀ u ∈ d.cells, u.oneCell' = true := fun u h => by
  simp only [DoD.cells, List.mem_cons, List.not_mem_nil, or_false] at h
  rcases h with h | h | h <;> subst h <;> rfl
def lDo : Lay DoD := ⟨32, 3, DoD.cells, fun _ => rfl, DoD.cells_one⟩
theorem step_read {w : World} {b off n c k : Nat} {ds : List DoD} (h : SV lDo w (.slice (some ⟨b, off, none⟩) n c) ds) {d : DoD} (hd : ds[k]? = some d) :
    w.cell? ⟨b, off + k * 3, none⟩ = some (.int .i64 d.verb) ∧ w.cell? ⟨b, off + k * 3 + 1, none⟩ = some (.int .i64 d.t) ∧ w.cell? ⟨b, off + k * 3 + 2, none⟩ = some (.int .i64 d.a) :=
  ⟨h.cellAt (j := 0) hd rfl, h.cellAt (j := 1) hd rfl, h.cellAt (j := 2) hd rfl⟩
theorem pick_list {α : Type} {Q : Nat → α → Prop} : ∀ len : Nat, (∀ i, i < len → ∃ d, Q i d) → ∃ ds : List α, ds.length = len ∧ ∀ i d, ds[i]? = some d → Q i d
  | 0, _ => ⟨[], rfl, fun i d h => by simp at h⟩
  | len + 1, h => by
    obtain ⟨ds, h1, h2⟩ := pick_list len (fun i hi => h i (by omega))
    obtain ⟨d, hd⟩ := h len (by omega)
    refine ⟨ds ++ [d], by simp [h1], fun i e he => ?_⟩
    by_cases hi : i < len
    · rw [List.getElem?_append_left (by omega)] at he
      exact h2 i e he
    · rw [List.getElem?_append_right (by omega), h1] at he
      have : i - len = 0 := by
        have := (List.getElem?_eq_some_iff.1 he).1
        simp at this; omega
      rw [this] at he
      obtain rfl : d = e := by simpa using he
      rw [show i = len by omega]; exact hd
end Go.Proofs.YtocigedgicgonaaDoor
