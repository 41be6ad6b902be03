/- What package rows owes (layer 3), as one bundle of contracts; out of it the laws' own 'awake'. -/
import Derived.Test.YtaaikmompiejdaaRwTake
import Derived.Test.YtaaikmompiejdaaErrIs
namespace Go.Proofs.Ytaaikmompiejdaa
open Go.RowKit

/-- rows in new memory, which may be written -/
def FreshV (n : Nat) (w : World) (v : Value) (rs : List Rw) : Prop := RowsV w v rs ∧ (rs ≠ [] → ∃ g off cap, v = .slice (some ⟨g, off, none⟩) rs.length cap ∧ n ≤ g ∧ ∀ j, j < rs.length * 2 → w.frozen? ⟨g, off + j, none⟩ = false)
/-- why two rows may not be joined: the last key of the first ones is not ahead of the others' first one -/
def clashB (a b : List Rw) : Bool := !a.isEmpty && !b.isEmpty && !bef (a.getD (a.length - 1) r0).1.data.toList (b.getD 0 r0).1.data.toList
structure RwC : Prop where
  right : ∀ (v : Value) (rs : List Rw) (w : World), RowsV w v rs → rs.length ≤ 1000 → Calls Try.prog 17 #[v] w fun ev w' => ev = .returned (.bool (rightB rs)) ∧ Below w.heap.size w w'
  find : ∀ (v : Value) (rs : List Rw) (key : ByteArray) (w : World), RowsV w v rs → rs.length ≤ 1000 → key.size ≤ maxLen → Calls Try.prog 13 #[v, .string key] w fun ev w' => ev = .returned (.tuple #[.int .i64 ((fnd rs key).1 : Int), .bool (fnd rs key).2]) ∧ Below w.heap.size w w'
  same : ∀ (v u : Value) (rs ss : List Rw) (w : World), RowsV w v rs → RowsV w u ss → rs.length ≤ 1000 → ss.length ≤ 1000 → Calls Try.prog 19 #[v, u] w fun ev w' => ev = .returned (.bool (sameR rs ss)) ∧ Below w.heap.size w w'
  copy : ∀ (v : Value) (rs : List Rw) (w : World), RowsV w v rs → rs.length ≤ 1000 → Calls Try.prog 15 #[v] w fun ev w' => ∃ v', ev = .returned v' ∧ FreshV w.heap.size w' v' rs ∧ Below w.heap.size w w'
  put : ∀ (v : Value) (rs : List Rw) (k x : ByteArray) (w : World), RowsV w v rs → rs.length ≤ 1000 → k.size ≤ maxLen → x.size ≤ maxLen → fitB (k, x) = true →
    Calls Try.prog 23 #[v, .agg #[.string k, .string x]] w fun ev w' => ∃ v', ev = .returned (.tuple #[v', .bool (fnd rs k).2, .nilIface]) ∧ RowsV w' v' (putR rs (k, x)) ∧ Below w.heap.size w w'
  putNo : ∀ (v : Value) (rs : List Rw) (k x : ByteArray) (w : World), RowsV w v rs → rs.length ≤ 1000 → k.size ≤ maxLen → x.size ≤ maxLen → fitB (k, x) = false →
    Calls Try.prog 23 #[v, .agg #[.string k, .string x]] w fun ev w' => ∃ v', ev = .returned (.tuple #[v', .bool false, .iface 40 (.int .i64 1)]) ∧ RowsV w' v' [] ∧ Below w.heap.size w w'
  drop : ∀ (v : Value) (rs : List Rw) (key : ByteArray) (w : World), RowsV w v rs → rs.length ≤ 1000 → key.size ≤ maxLen → Calls Try.prog 21 #[v, .string key] w fun ev w' => ∃ v', ev = .returned (.tuple #[v', .bool (fnd rs key).2]) ∧ RowsV w' v' (dropR rs key) ∧ Below w.heap.size w w'
  cut : ∀ (v : Value) (rs : List Rw) (key : ByteArray) (w : World), RowsV w v rs → rs.length ≤ 1000 → key.size ≤ maxLen → Calls Try.prog 27 #[v, .string key] w fun ev w' => ∃ v1 v2, ev = .returned (.tuple #[v1, v2]) ∧ RowsV w' v1 (rs.take (fnd rs key).1) ∧ RowsV w' v2 (rs.drop (fnd rs key).1) ∧ Below w.heap.size w w'
  halve : ∀ (v : Value) (rs : List Rw) (w : World), RowsV w v rs → rs.length ≤ 1000 → halfB rs = true → Calls Try.prog 28 #[v] w fun ev w' => ∃ v1 v2, ev = .returned (.tuple #[.string (halfK rs), v1, v2, .nilIface]) ∧ RowsV w' v1 (rs.take (rs.length / 2)) ∧ RowsV w' v2 (rs.drop (rs.length / 2)) ∧ Below w.heap.size w w'
  halveNo : ∀ (v : Value) (rs : List Rw) (w : World), RowsV w v rs → rs.length ≤ 1000 → halfB rs = false → Calls Try.prog 28 #[v] w fun ev w' => ∃ v1 v2, ev = .returned (.tuple #[.string ⟨#[]⟩, v1, v2, .iface 40 (.int .i64 (if rs.length < 2 then 2 else 1))]) ∧ RowsV w' v1 [] ∧ RowsV w' v2 [] ∧ Below w.heap.size w w'
  join : ∀ (v u : Value) (rs ss : List Rw) (w : World), RowsV w v rs → RowsV w u ss → rs.length ≤ 1000 → ss.length ≤ 1000 → clashB rs ss = false → Calls Try.prog 30 #[v, u] w fun ev w' => ∃ v', ev = .returned (.tuple #[v', .nilIface]) ∧ RowsV w' v' (rs ++ ss) ∧ Below w.heap.size w w'
  joinNo : ∀ (v u : Value) (rs ss : List Rw) (w : World), RowsV w v rs → RowsV w u ss → rs.length ≤ 1000 → ss.length ≤ 1000 → clashB rs ss = true → Calls Try.prog 30 #[v, u] w fun ev w' => ∃ v', ev = .returned (.tuple #[v', .iface 40 (.int .i64 2)]) ∧ RowsV w' v' [] ∧ Below w.heap.size w w'
  take : ∀ (v : Value) (rs : List Rw) (low high : ByteArray) (unb rev : Bool) (limit : Int) (w : World), RowsV w v rs → rs.length ≤ 1000 → low.size ≤ maxLen → high.size ≤ maxLen → -9223372036854775808 ≤ limit ∧ limit ≤ 9223372036854775807 →
    Calls Try.prog 32 #[v, .agg #[.string low, .string high, .bool unb], .int .i64 limit, .bool rev] w fun ev w' => ∃ v', ev = .returned v' ∧ RowsV w' v' (takeR low high unb rev limit rs) ∧ Below w.heap.size w w'

/-- rows that are written out -/
theorem RowsV.lit (w : World) (n : Nat) (hn : w.heap.size = n) (rs : List Rw) (hs : Small rs) (hl : rs.length ≤ maxLen) : RowsV (w.alloc (.cells (flat rs).toArray 30)) (.slice (some ⟨n, 0, none⟩) rs.length rs.length) rs := by
  subst hn
  refine ⟨_, rs.length, rfl, Nat.le_refl _, hl, fun h => (by cases h), w.heap.size, 0, fun x hx => (Option.some.inj hx).symm, fun j u hu => ?_, hs⟩
  rw [World.cell?_alloc_at _ _ _ _ rfl]
  simpa using hu
def litR : List Rw := [(⟨#[97]⟩, ⟨#[]⟩), (⟨#[98]⟩, ⟨#[]⟩), (⟨#[99]⟩, ⟨#[]⟩)]
theorem litSmall : Small litR := fun r hr => by
  simp [litR] at hr
  rcases hr with rfl | rfl | rfl <;> exact ⟨by decide, by decide⟩
set_option maxHeartbeats 2000000 in
theorem awakeR (C : RwC) (w : World) : Calls Try.prog 12 #[] w fun ev w' => ev = .returned (.bool true) ∧ Below w.heap.size w w' := by
  have L : Aside RwC := C
  have R0 := Lib.hid (RowsV.lit w w.heap.size rfl litR litSmall (by decide))
  have B0 := Lib.hid (alloc_below0 w (.cells (flat litR).toArray 30))
  clear C
  go_enter Try.func12, Try.ntmps12
  go_wp2_with fail
  refine (L.out.halve _ litR _ R0.out (by decide) (by decide +kernel)).mono ?_
  rintro ev w1 ⟨v1, v2, rfl, h1, h2, hs⟩
  have e1 : halfK litR = ⟨#[98]⟩ := by decide +kernel
  rw [e1]
  obtain ⟨a1, c1, rfl, -, -⟩ := h1.lenform
  obtain ⟨a2, c2, rfl, -, -⟩ := h2.lenform
  have e2 : (litR.take (litR.length / 2)).length = 1 := rfl
  have e3 : (litR.drop (litR.length / 2)).length = 2 := rfl
  rw [e2, e3]
  have R1 := Lib.hid (R0.out.below hs)
  have B1 := Lib.hid (B0.out.trans (hs.mono B0.out.size))
  clear h1 h2 hs e1 e2 e3
  go_wp2_with fail
  refine (L.out.right _ litR _ R1.out (by decide)).mono ?_
  rintro ev w2 ⟨rfl, hs⟩
  have e4 : rightB litR = true := by decide +kernel
  rw [e4]
  have B2 := Lib.hid (B1.out.trans (hs.mono B1.out.size))
  clear hs e4
  go_wp2
  go_ret
  exact ⟨rfl, B2.out⟩
end Go.Proofs.Ytaaikmompiejdaa
