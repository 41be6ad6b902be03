/- What package rows owes (layer 3), as one bundle of contracts; out of it the laws' own 'awake'. -/
import Derived.Test.YtkbfhpgcjljbbaaDoorRwPut
import Derived.Test.YtkbfhpgcjljbbaaDoorProg
import Derived.WalkKit
import Derived.LaidEql
import Derived.Stop.Asserts
import Derived.RowKitTokens
namespace Go.Proofs.YtkbfhpgcjljbbaaDoor
open Go.RowKit

/-- is there something between the halves? -/
def halfB (rs : List Rw) : Bool := decide (2 ≤ rs.length) && bef (rs.getD (rs.length / 2 - 1) r0).1.data.toList (rs.getD (rs.length / 2) r0).1.data.toList
/-- what parts the halves -/
def halfK (rs : List Rw) : ByteArray := btw (rs.getD (rs.length / 2 - 1) r0).1 (rs.getD (rs.length / 2) r0).1
theorem results_tmp4 {P : Program} {fn : Func} {a b c d : Tmp} (h : fn.results = #[.tmp a, .tmp b, .tmp c, .tmp d]) (tmps : Array Value) (w : World) :
    (results fn tmps).run P w = .ok (.tuple #[tmps.getD a undef, tmps.getD b undef, tmps.getD c undef, tmps.getD d undef]) w := by
  simp [results, h]
open Go.RowKit

/-- is a row's key in the span? -/
def inR (low high : ByteArray) (unb : Bool) (r : Rw) : Bool := inn low.data.toList high.data.toList unb r.1.data.toList
/-- those of rows that are in a span, rising or falling, with no limit; and with one -/
def accR (low high : ByteArray) (unb rev : Bool) (rs : List Rw) : List Rw := if rev then (rs.filter (inR low high unb)).reverse else rs.filter (inR low high unb)
def takeR (low high : ByteArray) (unb rev : Bool) (limit : Int) (rs : List Rw) : List Rw := if 1 ≤ limit then (accR low high unb rev rs).take limit.toNat else accR low high unb rev rs
theorem accR_small {low high : ByteArray} {unb rev : Bool} {rs : List Rw} (h : Small rs) : Small (accR low high unb rev rs) := by
  unfold accR
  split
  · exact (h.filter _).reverse
  · exact h.filter _
theorem accR_len (low high : ByteArray) (unb rev : Bool) (rs : List Rw) : (accR low high unb rev rs).length ≤ rs.length := by
  unfold accR
  split
  · rw [List.length_reverse]; exact List.length_filter_le _ _
  · exact List.length_filter_le _ _
theorem accR_no {low high : ByteArray} {unb rev : Bool} {rs : List Rw} {k : Nat} (hk : k < rs.length) (h : inR low high unb (rs.getD k r0) = false) : accR low high unb rev (rs.take (k + 1)) = accR low high unb rev (rs.take k) := by
  have e : (rs.take (k + 1)).filter (inR low high unb) = (rs.take k).filter (inR low high unb) := by
    rw [take_at hk, List.filter_append, List.filter_cons, if_neg (by rw [h]; simp), List.filter_nil, List.append_nil]
  unfold accR
  rw [e]
theorem accR_up {low high : ByteArray} {unb : Bool} {rs : List Rw} {k : Nat} (hk : k < rs.length) (h : inR low high unb (rs.getD k r0) = true) : accR low high unb false (rs.take (k + 1)) = accR low high unb false (rs.take k) ++ [rs.getD k r0] := by
  unfold accR
  rw [take_at hk, List.filter_append, List.filter_cons, if_pos h, List.filter_nil]
  rfl
theorem accR_down {low high : ByteArray} {unb : Bool} {rs : List Rw} {k : Nat} (hk : k < rs.length) (h : inR low high unb (rs.getD k r0) = true) : accR low high unb true (rs.take (k + 1)) = [rs.getD k r0] ++ accR low high unb true (rs.take k) := by
  unfold accR
  rw [take_at hk, List.filter_append, List.filter_cons, if_pos h, List.filter_nil]
  show (List.filter _ _ ++ [_]).reverse = _
  rw [List.reverse_append]
  rfl
open Go.RowKit Go.Extern.Stop Go.Stop Go.Extern

theorem x_typeOf (args : Array Value) (w : World) : (callFunc 58 args).run Tryd.prog w = ((ReflectliteType.typeOf args).run Tryd.prog w).andThen fun v w' => .ok (.value v) w' :=
  run_callFunc_extern Tryd.func58 (by kernel_rfl) (by kernel_rfl) (by kernel_rfl) (by kernel_rfl) args w
def eComparable (args : Array Value) : Sem Value := (ReflectliteType.method fun t => do Rtype.noPackHeld "Comparable" t; pure (.bool (← typeInfo t).comparable)) args
theorem x_comparable (args : Array Value) (w : World) : (callFunc 87 args).run Tryd.prog w = ((eComparable args).run Tryd.prog w).andThen fun v w' => .ok (.value v) w' :=
  run_callFunc_extern (e := eComparable) Tryd.func87 (by kernel_rfl) (by kernel_rfl) (by kernel_rfl) (by kernel_rfl) args w

theorem m_comparable (v : Value) (w : World) : (Go.method 252 110 v "Comparable").run Tryd.prog w = .ok (87, v) w := by kernel_rfl
theorem typeOfC (v : Value) (w : World) : (ReflectliteType.typeOf #[.iface 58 v]).run Tryd.prog w = .ok (.iface 110 (.agg #[.pointer (some ⟨2, 58, none⟩)])) w := by kernel_rfl
theorem compC (w : World) : (eComparable #[.agg #[.pointer (some ⟨2, 58, none⟩)]]).run Tryd.prog w = .ok (.bool true) w := by kernel_rfl

theorem noUnC (v : Value) (xT : TypeId) (w : World) : (Instr.typeAssert (.iface 58 v) xT 118 true).run Tryd.prog w = .ok (.tuple #[.nilIface, .bool false]) w := run_typeAssert_lacksB Tryd.underlying118 (by kernel_rfl) (by kernel_rfl) v xT w
theorem noUnsC (v : Value) (xT : TypeId) (w : World) : (Instr.typeAssert (.iface 58 v) xT 120 true).run Tryd.prog w = .ok (.tuple #[.nilIface, .bool false]) w := run_typeAssert_lacksB Tryd.underlying120 (by kernel_rfl) (by kernel_rfl) v xT w
theorem compInfoC : (Tryd.prog.info? 58).map (·.comparable) = some true := by kernel_rfl
theorem eqlCC (a b : Int) (w : World) : (binOp .eql 45 (.iface 58 (.int .i64 a)) (.iface 58 (.int .i64 b))).run Tryd.prog w = .ok (.bool (a == b)) w := by
  obtain ⟨i, hi, hcmp⟩ := Option.map_eq_some_iff.1 compInfoC
  have h : ∀ d : Nat, (Op.equalIn (d + 2) 45 (.iface 58 (.int .i64 a)) (.iface 58 (.int .i64 b))).run Tryd.prog w = .ok (a == b) w := fun d => by
    simp [Op.equalIn, run_underlying Tryd.underlying45, run_underlying Tryd.underlying58, typeInfo, hi, hcmp]
  simp only [binOp]
  simp [Op.equal, Op.maxDepth, h 9998]

open Go.RowKit

/-- rows in new memory, which may be written -/
def FreshV (n : Nat) (w : World) (v : Value) (rs : List Rw) : Prop := RowsV w v rs ∧ (rs ≠ [] → ∃ g off cap, v = .slice (some ⟨g, off, none⟩) rs.length cap ∧ n ≤ g ∧ ∀ j, j < rs.length * 2 → w.frozen? ⟨g, off + j, none⟩ = false)
/-- why two rows may not be joined: the last key of the first ones is not ahead of the others' first one -/
def clashB (a b : List Rw) : Bool := !a.isEmpty && !b.isEmpty && !bef (a.getD (a.length - 1) r0).1.data.toList (b.getD 0 r0).1.data.toList
structure RwC : Prop where
  right : ∀ (v : Value) (rs : List Rw) (w : World), RowsV w v rs → rs.length ≤ 1000 → Calls Tryd.prog 48 #[v] w fun ev w' => ev = .returned (.bool (rightB rs)) ∧ Below w.heap.size w w'
/-- rows that are written out -/
theorem RowsV.lit (w : World) (n : Nat) (hn : w.heap.size = n) (rs : List Rw) (hs : Small rs) (hl : rs.length ≤ maxLen) : RowsV (w.alloc (.cells (flat rs).toArray 90)) (.slice (some ⟨n, 0, none⟩) rs.length rs.length) rs := by
  subst hn
  refine ⟨_, rs.length, rfl, Nat.le_refl _, hl, fun h => (by cases h), w.heap.size, 0, fun x hx => (Option.some.inj hx).symm, fun j u hu => ?_, hs⟩
  rw [World.cell?_alloc_at _ _ _ _ rfl]
  simpa using hu
def litR : List Rw := [(⟨#[97]⟩, ⟨#[]⟩), (⟨#[98]⟩, ⟨#[]⟩), (⟨#[99]⟩, ⟨#[]⟩)]
theorem litSmall : Small litR := fun r hr => by
  simp [litR] at hr
  rcases hr with rfl | rfl | rfl <;> exact ⟨by decide, by decide⟩
end Go.Proofs.YtkbfhpgcjljbbaaDoor
