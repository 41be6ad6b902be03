/- The document's own arena: Free, by a contract. -/
import Derived.Test.YtkkmfacngmginaaDoorMm
import Derived.Test.YtkkmfacngmginaaDoorArRh
namespace Go.Proofs.YtkkmfacngmginaaDoor
open Go.RowKit

theorem putInfo : (Tryd.prog.info? 143).map (fun i => (i.zero, i.size, i.bytes)) = some (some (.agg #[.int .i64 0, .int .i64 0, .int .i64 0, .string ⟨#[]⟩, .string ⟨#[]⟩, .bool false, .int .i64 0, .slice none 0 0, .slice none 0 0, .string ⟨#[]⟩, .string ⟨#[]⟩, .int .i64 0, .int .i64 0, .int .i64 0, .string ⟨#[]⟩, .int .i64 0, .int .i64 0, .bool false]), 18, 216) := by kernel_rfl
theorem lPut_known : lPut.known 216 := known_of putInfo rfl rfl
def arCells (n l : Int) (v : Value) : List Value := [.int .i64 n, .int .i64 l, v]
theorem blk_range {w : World} {b : Nat} {cs : List Value} {T : TypeId} (h : w.heap[b]? = some (.cells cs.toArray T (0, 0))) : w.rangeAt b 0 cs := fun j u hj => by
  rw [Nat.zero_add, blk_cell h]; simpa using hj
theorem freeM_no {n : Nat} {ps : List Pt} {x y : Int} (h : codeM n ps x y ≠ 0) : freeM n ps x y = ps := by unfold freeM; rw [if_neg h]
theorem set_modify {us : List PuD} {i : Nat} {d : PuD} (h : us[i]? = some d) : (us.set i { d with live := false }).map PuD.pt = (us.map PuD.pt).modify i (fun p => { p with live := false }) := by
  apply List.ext_getElem?
  intro j
  rw [List.getElem?_map, List.getElem?_modify, List.getElem?_map, List.getElem?_set]
  by_cases hj : i = j
  · subst hj
    rw [if_pos rfl, if_pos (List.getElem?_eq_some_iff.1 h).1, h]
    simp [PuD.pt]
  · rw [if_neg hj]
    simp [hj]
/-- what a call tells lies in memory of its own, or is what came in -/
def NewP (w w' : World) (v v' : Value) (us us' : List PuD) : Prop := OwnS lPut w.heap.size w' v' us' ∨ (v' = v ∧ us' = us)
/-- its record is just that one -/
def Heir (e e0 : PuD) : Prop := e.rv = e0.rv ∧ e.en = e0.en ∧ e.rows = e0.rows ∧ e.ents = e0.ents
theorem Heir.refl (e : PuD) : Heir e e := ⟨rfl, rfl, rfl, rfl⟩
end Go.Proofs.YtkkmfacngmginaaDoor
