/- What package rows owes (layer 3), as one bundle of contracts; out of it the laws' own 'awake'. -/
import Derived.Test.YtkbfhpgcjljbbaaRwTake
import Derived.Test.YtkbfhpgcjljbbaaErrIs
namespace Go.Proofs.Ytkbfhpgcjljbbaa
open Go.RowKit

/-- rows in new memory, which may be written -/
def FreshV (n : Nat) (w : World) (v : Value) (rs : List Rw) : Prop := RowsV w v rs ∧ (rs ≠ [] → ∃ g off cap, v = .slice (some ⟨g, off, none⟩) rs.length cap ∧ n ≤ g ∧ ∀ j, j < rs.length * 2 → w.frozen? ⟨g, off + j, none⟩ = false)
/-- why two rows may not be joined: the last key of the first ones is not ahead of the others' first one -/
def clashB (a b : List Rw) : Bool := !a.isEmpty && !b.isEmpty && !bef (a.getD (a.length - 1) r0).1.data.toList (b.getD 0 r0).1.data.toList
structure RwC : Prop where
  right : ∀ (v : Value) (rs : List Rw) (w : World), RowsV w v rs → rs.length ≤ 1000 → Calls Try.prog 40 #[v] w fun ev w' => ev = .returned (.bool (rightB rs)) ∧ Below w.heap.size w w'
  find : ∀ (v : Value) (rs : List Rw) (key : ByteArray) (w : World), RowsV w v rs → rs.length ≤ 1000 → key.size ≤ maxLen → Calls Try.prog 67 #[v, .string key] w fun ev w' => ev = .returned (.tuple #[.int .i64 ((fnd rs key).1 : Int), .bool (fnd rs key).2]) ∧ Below w.heap.size w w'
  copy : ∀ (v : Value) (rs : List Rw) (w : World), RowsV w v rs → rs.length ≤ 1000 → Calls Try.prog 52 #[v] w fun ev w' => ∃ v', ev = .returned v' ∧ FreshV w.heap.size w' v' rs ∧ Below w.heap.size w w'
  put : ∀ (v : Value) (rs : List Rw) (k x : ByteArray) (w : World), RowsV w v rs → rs.length ≤ 1000 → k.size ≤ maxLen → x.size ≤ maxLen → fitB (k, x) = true →
    Calls Try.prog 65 #[v, .agg #[.string k, .string x]] w fun ev w' => ∃ v', ev = .returned (.tuple #[v', .bool (fnd rs k).2, .nilIface]) ∧ RowsV w' v' (putR rs (k, x)) ∧ Below w.heap.size w w'
  putNo : ∀ (v : Value) (rs : List Rw) (k x : ByteArray) (w : World), RowsV w v rs → rs.length ≤ 1000 → k.size ≤ maxLen → x.size ≤ maxLen → fitB (k, x) = false →
    Calls Try.prog 65 #[v, .agg #[.string k, .string x]] w fun ev w' => ∃ v', ev = .returned (.tuple #[v', .bool false, .iface 67 (.int .i64 1)]) ∧ RowsV w' v' [] ∧ Below w.heap.size w w'
  drop : ∀ (v : Value) (rs : List Rw) (key : ByteArray) (w : World), RowsV w v rs → rs.length ≤ 1000 → key.size ≤ maxLen → Calls Try.prog 64 #[v, .string key] w fun ev w' => ∃ v', ev = .returned (.tuple #[v', .bool (fnd rs key).2]) ∧ RowsV w' v' (dropR rs key) ∧ Below w.heap.size w w'
/-- rows that are written out -/
theorem RowsV.lit (w : World) (n : Nat) (hn : w.heap.size = n) (rs : List Rw) (hs : Small rs) (hl : rs.length ≤ maxLen) : RowsV (w.alloc (.cells (flat rs).toArray 48)) (.slice (some ⟨n, 0, none⟩) rs.length rs.length) rs := by
  subst hn
  refine ⟨_, rs.length, rfl, Nat.le_refl _, hl, fun h => (by cases h), w.heap.size, 0, fun x hx => (Option.some.inj hx).symm, fun j u hu => ?_, hs⟩
  rw [World.cell?_alloc_at _ _ _ _ rfl]
  simpa using hu
def litR : List Rw := [(⟨#[97]⟩, ⟨#[]⟩), (⟨#[98]⟩, ⟨#[]⟩), (⟨#[99]⟩, ⟨#[]⟩)]
theorem litSmall : Small litR := fun r hr => by
  simp [litR] at hr
  rcases hr with rfl | rfl | rfl <;> exact ⟨by decide, by decide⟩
end Go.Proofs.Ytkbfhpgcjljbbaa
