/- errors.As of nil and of a code at *api.Code; fault.Code of both; by contracts. No package of the program but fault is named here. -/
import Derived.Test.YtkbfhpgcjljbbaaDoorProg
import Derived.Test.YtkbfhpgcjljbbaaDoorKit
import Derived.WalkKit
import Derived.LaidEql
import Derived.Stop.Asserts
import Derived.RowKitTokens
import Derived.Deep.LoopGhost
import Derived.WalkSmall
import Derived.Defers
import Derived.Recover
namespace Go.Proofs.YtkbfhpgcjljbbaaDoor.Ea
open Go.RowKit Go.Extern.Stop Go.Stop Go.Extern

theorem x_valueOf (args : Array Value) (w : World) : (callFunc 51 args).run Tryd.prog w = (((fun args => ReflectliteValue.unpack (args.getD 0 (.tuple #[]))) args).run Tryd.prog w).andThen fun v w' => .ok (.value v) w' :=
  run_callFunc_extern (e := fun args => ReflectliteValue.unpack (args.getD 0 (.tuple #[]))) Tryd.func51 (by kernel_rfl) (by kernel_rfl) (by kernel_rfl) (by kernel_rfl) args w
theorem x_type (args : Array Value) (w : World) : (callFunc 52 args).run Tryd.prog w = (((ReflectliteValue.methodAny (ReflectliteValue.valueError "reflectlite.Value.Type" 0) (fun t _ _ _ => ReflectliteType.toType t)) args).run Tryd.prog w).andThen fun v w' => .ok (.value v) w' :=
  run_callFunc_extern Tryd.func52 (by kernel_rfl) (by kernel_rfl) (by kernel_rfl) (by kernel_rfl) args w
theorem x_isNil (args : Array Value) (w : World) : (callFunc 53 args).run Tryd.prog w = (((ReflectliteValue.method (ReflectliteValue.valueError "reflectlite.Value.IsNil" 0) ReflectliteValue.isNil) args).run Tryd.prog w).andThen fun v w' => .ok (.value v) w' :=
  run_callFunc_extern Tryd.func53 (by kernel_rfl) (by kernel_rfl) (by kernel_rfl) (by kernel_rfl) args w
theorem x_kind (args : Array Value) (w : World) : (callFunc 78 args).run Tryd.prog w = (((ReflectliteType.abiMethod fun t => do pure (.int .u8 (← Rtype.kind t))) args).run Tryd.prog w).andThen fun v w' => .ok (.value v) w' :=
  run_callFunc_extern Tryd.func78 (by kernel_rfl) (by kernel_rfl) (by kernel_rfl) (by kernel_rfl) args w
theorem x_elem (args : Array Value) (w : World) : (callFunc 88 args).run Tryd.prog w = (((ReflectliteType.method ReflectliteType.elem) args).run Tryd.prog w).andThen fun v w' => .ok (.value v) w' :=
  run_callFunc_extern Tryd.func88 (by kernel_rfl) (by kernel_rfl) (by kernel_rfl) (by kernel_rfl) args w
theorem x_implements (args : Array Value) (w : World) : (callFunc 89 args).run Tryd.prog w = (((ReflectliteType.relation "Implements" ReflectliteType.implements_) args).run Tryd.prog w).andThen fun v w' => .ok (.value v) w' :=
  run_callFunc_extern Tryd.func89 (by kernel_rfl) (by kernel_rfl) (by kernel_rfl) (by kernel_rfl) args w
theorem x_typeOf (args : Array Value) (w : World) : (callFunc 58 args).run Tryd.prog w = ((ReflectliteType.typeOf args).run Tryd.prog w).andThen fun v w' => .ok (.value v) w' :=
  run_callFunc_extern Tryd.func58 (by kernel_rfl) (by kernel_rfl) (by kernel_rfl) (by kernel_rfl) args w
theorem x_assignable (args : Array Value) (w : World) : (callFunc 86 args).run Tryd.prog w = (((ReflectliteType.relation "AssignableTo" ReflectliteType.assignableTo) args).run Tryd.prog w).andThen fun v w' => .ok (.value v) w' :=
  run_callFunc_extern Tryd.func86 (by kernel_rfl) (by kernel_rfl) (by kernel_rfl) (by kernel_rfl) args w
theorem x_vElem (args : Array Value) (w : World) : (callFunc 59 args).run Tryd.prog w = (((ReflectliteValue.method (ReflectliteValue.valueError "reflectlite.Value.Elem" 0) ReflectliteValue.elem) args).run Tryd.prog w).andThen fun v w' => .ok (.value v) w' :=
  run_callFunc_extern Tryd.func59 (by kernel_rfl) (by kernel_rfl) (by kernel_rfl) (by kernel_rfl) args w
theorem x_set (args : Array Value) (w : World) : (callFunc 60 args).run Tryd.prog w = ((ReflectliteValue.set args).run Tryd.prog w).andThen fun v w' => .ok (.value v) w' :=
  run_callFunc_extern Tryd.func60 (by kernel_rfl) (by kernel_rfl) (by kernel_rfl) (by kernel_rfl) args w
theorem m_kind (h : Value) (w : World) : (Go.method 252 110 (.agg #[h]) "Kind").run Tryd.prog w = .ok (78, h) w := by kernel_rfl
theorem m_elem (h : Value) (w : World) : (Go.method 252 110 (.agg #[h]) "Elem").run Tryd.prog w = .ok (88, .agg #[h]) w := by kernel_rfl
theorem m_implements (h : Value) (w : World) : (Go.method 252 110 (.agg #[h]) "Implements").run Tryd.prog w = .ok (89, .agg #[h]) w := by kernel_rfl
theorem m_assignable (h : Value) (w : World) : (Go.method 252 110 (.agg #[h]) "AssignableTo").run Tryd.prog w = .ok (86, .agg #[h]) w := by kernel_rfl
theorem typeOfC (v : Value) (w : World) : (ReflectliteType.typeOf #[.iface 58 v]).run Tryd.prog w = .ok (.iface 110 (.agg #[.pointer (some ⟨2, 58, none⟩)])) w := by kernel_rfl
theorem assignCC (w : World) : (ReflectliteType.relation "AssignableTo" ReflectliteType.assignableTo #[.agg #[.pointer (some ⟨2, 58, none⟩)], .iface 110 (.agg #[.pointer (some ⟨2, 58, none⟩)])]).run Tryd.prog w = .ok (.bool true) w := by kernel_rfl
theorem valueOfPC (t : Addr) (w : World) : (ReflectliteValue.unpack (.iface 84 (.pointer (some t)))).run Tryd.prog w
    = .ok (.agg #[.pointer (some ⟨2, 84, none⟩), .pointer (some ⟨w.heap.size, 0, none⟩), .int .u64 150]) (w.alloc (.cells #[.pointer (some t)] 84)) := by kernel_rfl
theorem valueOfC (c : Int) (w : World) : (ReflectliteValue.unpack (.iface 58 (.int .i64 c))).run Tryd.prog w
    = .ok (.agg #[.pointer (some ⟨2, 58, none⟩), .pointer (some ⟨w.heap.size, 0, none⟩), .int .u64 130]) (w.alloc (.cells #[.int .i64 c] 58)) := by kernel_rfl
theorem typePC (a : Addr) (w : World) : (ReflectliteValue.methodAny (ReflectliteValue.valueError "reflectlite.Value.Type" 0) (fun t _ _ _ => ReflectliteType.toType t) #[.agg #[.pointer (some ⟨2, 84, none⟩), .pointer (some a), .int .u64 150]]).run Tryd.prog w
    = .ok (.iface 110 (.agg #[.pointer (some ⟨2, 84, none⟩)])) w := by kernel_rfl
theorem kindPC (w : World) : ((ReflectliteType.abiMethod fun t => (fun a : Nat => Value.int IntKind.u8 (a : Int)) <$> Rtype.kind t) #[.pointer (some ⟨2, 84, none⟩)]).run Tryd.prog w = .ok (.int .u8 22) w := by kernel_rfl
theorem kindC (w : World) : ((ReflectliteType.abiMethod fun t => (fun a : Nat => Value.int IntKind.u8 (a : Int)) <$> Rtype.kind t) #[.pointer (some ⟨2, 58, none⟩)]).run Tryd.prog w = .ok (.int .u8 2) w := by kernel_rfl
theorem elemPC (w : World) : (ReflectliteType.method ReflectliteType.elem #[.agg #[.pointer (some ⟨2, 84, none⟩)]]).run Tryd.prog w = .ok (.iface 110 (.agg #[.pointer (some ⟨2, 58, none⟩)])) w := by kernel_rfl
theorem implC (w : World) : (ReflectliteType.relation "Implements" ReflectliteType.implements_ #[.agg #[.pointer (some ⟨2, 58, none⟩)], .iface 110 (.agg #[.pointer (some ⟨2, 45, none⟩)])]).run Tryd.prog w = .ok (.bool true) w := by kernel_rfl
theorem rlm (z : Sem Value) (f : TypeId → Addr → Nat → Nat → Sem Value) (v : Value) :
    ReflectliteValue.method z f #[v] = (do match ← ReflectliteValue.parts v with | none => z | some (t, a, fl) => f t a fl (fl % 32)) := rfl
theorem partsPC (a : Addr) (w : World) : (ReflectliteValue.parts (.agg #[.pointer (some ⟨2, 84, none⟩), .pointer (some a), .int .u64 150])).run Tryd.prog w = .ok (some (84, a, 150)) w := by kernel_rfl
theorem isNilPC (a p : Addr) (W : World) (ha : W.cell? a = some (.pointer (some p))) :
    (ReflectliteValue.method (ReflectliteValue.valueError "reflectlite.Value.IsNil" 0) ReflectliteValue.isNil #[.agg #[.pointer (some ⟨2, 84, none⟩), .pointer (some a), .int .u64 150]]).run Tryd.prog W = .ok (.bool false) W := by
  rw [rlm]
  simp only [Sem.run_bind, partsPC, Result.andThen]
  simp [ReflectliteValue.isNil, loadVar, isAgg, underlying, Tryd.underlying84, ha, Result.andThen]
theorem elemOfPC (w : World) : (Rtype.elem? 84).run Tryd.prog w = .ok (some 58) w := by kernel_rfl
theorem mkC (p : Addr) (w : World) : (ReflectliteValue.mk 58 p ReflectliteValue.flagAddr).run Tryd.prog w = .ok (.agg #[.pointer (some ⟨2, 58, none⟩), .pointer (some p), .int .u64 386]) w := by kernel_rfl
theorem elemVPC (a p : Addr) (W : World) (ha : W.cell? a = some (.pointer (some p))) :
    (ReflectliteValue.method (ReflectliteValue.valueError "reflectlite.Value.Elem" 0) ReflectliteValue.elem #[.agg #[.pointer (some ⟨2, 84, none⟩), .pointer (some a), .int .u64 150]]).run Tryd.prog W
      = .ok (.agg #[.pointer (some ⟨2, 58, none⟩), .pointer (some p), .int .u64 386]) W := by
  rw [rlm]
  simp only [Sem.run_bind, partsPC, Result.andThen]
  simp [ReflectliteValue.elem, loadVar, isAgg, underlying, Tryd.underlying84, ha, Result.andThen, elemOfPC, mkC]
theorem rls (v x : Value) : ReflectliteValue.set #[v, x] = (do
    let (some (dst, a, fl), some (src, b, _)) := (← ReflectliteValue.parts v, ← ReflectliteValue.parts x)
      | unsupported (.noEntry "extern/(internal/reflectlite.Value).Set.zeroValue")
    if fl / ReflectliteValue.flagAddr % 2 == 0 then unsupported (.noEntry "extern/(internal/reflectlite.Value).Set.unaddressable")
    let val ← loadVar src b
    if ← Rtype.directlyAssignable dst src then storeVar dst a val
    else if ← Rtype.implements dst src then
      if (← Rtype.kind src) == 20 then
        match val with
        | .nilIface => unsupported (.noEntry "extern/reflectlite: a nil value of one interface type handed on as a value of another")
        | _ => storeVar dst a val
      else storeVar dst a (.iface src val)
    else panicString ("reflectlite.Set: value of type " ++ (← Rtype.spelt src) ++ " is not assignable to type " ++ (← Rtype.spelt dst))
    pure (.tuple #[])) := rfl
theorem partsCa (a : Addr) (w : World) : (ReflectliteValue.parts (.agg #[.pointer (some ⟨2, 58, none⟩), .pointer (some a), .int .u64 386])).run Tryd.prog w = .ok (some (58, a, 386)) w := by kernel_rfl
theorem partsC (a : Addr) (w : World) : (ReflectliteValue.parts (.agg #[.pointer (some ⟨2, 58, none⟩), .pointer (some a), .int .u64 130])).run Tryd.prog w = .ok (some (58, a, 130)) w := by kernel_rfl
theorem directC (w : World) : (Rtype.directlyAssignable 58 58).run Tryd.prog w = .ok true w := by kernel_rfl
theorem setC (ta b : Addr) (c : Int) (old : Value) (W : World) (hb : W.cell? b = some (.int .i64 c)) (ht : W.cell? ta = some old) (hf : W.frozen? ta = false) :
    (ReflectliteValue.set #[.agg #[.pointer (some ⟨2, 58, none⟩), .pointer (some ta), .int .u64 386], .agg #[.pointer (some ⟨2, 58, none⟩), .pointer (some b), .int .u64 130]]).run Tryd.prog W
      = .ok (.tuple #[]) (W.setCell ta (.int .i64 c)) := by
  rw [rls]
  simp only [Sem.run_bind, partsCa, partsC, Result.andThen]
  simp [ReflectliteValue.flagAddr, loadVar, isAgg, underlying, Tryd.underlying58, hb, Result.andThen, directC, storeVar, Value.cells, storeCells, Addr.add]
  rw [run_store Tryd.prog W ta _ _ (by rfl)]
  simp [ht, hf]
/-- errors.errorType, as start-up leaves it. -/
def Glob (w : World) : Prop := w.cell? ⟨0, 0, none⟩ = some (.iface 110 (.agg #[.pointer (some ⟨2, 45, none⟩)]))
theorem Glob.below {w w' : World} (hb : Below w.heap.size w w') (h : Glob w) : Glob w' := by
  unfold Glob at h ⊢
  rw [hb.cell (p := ⟨0, 0, none⟩) (lt_of_cell h)]; exact h
/-- The one cell at tb holds v; but for it, nothing that there was has turned. -/
def SetB (w : World) (tb : Nat) (v : Value) (w' : World) : Prop := Below w.heap.size (w.setCell ⟨tb, 0, none⟩ v) w'
theorem setCell_size (w : World) (a : Addr) (v : Value) : (w.setCell a v).heap.size = w.heap.size := by simp [World.setCell]
theorem SetB.cell {w w' : World} {tb : Nat} {v old : Value} (h : SetB w tb v w') (ht : w.cell? ⟨tb, 0, none⟩ = some old) : w'.cell? ⟨tb, 0, none⟩ = some v := by
  have hlt := lt_of_cell ht
  rw [Below.cell (p := ⟨tb, 0, none⟩) h hlt, World.cell?_setCell_same' _ _ _ (by simp [ht])]
theorem SetB.frozen {w w' : World} {tb : Nat} {v : Value} (h : SetB w tb v w') (b : Nat) (hb : b < w.heap.size) : w'.frozen? ⟨b, 0, none⟩ = w.frozen? ⟨b, 0, none⟩ := by
  rw [Below.frozen (p := ⟨b, 0, none⟩) h hb, World.frozen?_setCell]
/-- Below tb nothing has turned. -/
theorem SetB.below {w w' : World} {tb : Nat} {v : Value} (h : SetB w tb v w') (hle : tb ≤ w.heap.size) : Below tb w w' :=
  ((Below.refl tb w).setCell (p := ⟨tb, 0, none⟩) (Nat.le_refl _) v).trans (h.mono hle)
theorem SetB.mk2 {w : World} {tb : Nat} {v : Value} (a b : Obj) : SetB w tb v (((w.setCell ⟨tb, 0, none⟩ v).alloc a).alloc b) :=
  ((Below.refl _ _).alloc (by rw [setCell_size]; exact Nat.le_refl _) a).alloc (by simp) b
set_option maxRecDepth 100000 in
set_option maxHeartbeats 4000000 in
/-- errors.as at *api.Code over a code: it is found; the target gets it. -/
theorem as_code (c : Int) (tb ab : Nat) (old : Value) (w : World) (ha : w.cell? ⟨ab, 0, none⟩ = some (.pointer (some ⟨tb, 0, none⟩))) (ht : w.cell? ⟨tb, 0, none⟩ = some old) (hf : w.frozen? ⟨tb, 0, none⟩ = false) :
    Calls Tryd.prog 54 #[.iface 58 (.int .i64 c), .iface 84 (.pointer (some ⟨tb, 0, none⟩)), .agg #[.pointer (some ⟨2, 84, none⟩), .pointer (some ⟨ab, 0, none⟩), .int .u64 150], .iface 110 (.agg #[.pointer (some ⟨2, 58, none⟩)])] w fun ev w' => ev = .returned (.bool true) ∧ SetB w tb (.int .i64 c) w' := by
  have hla := lt_of_cell ha
  have hlt := lt_of_cell ht
  have x1 := x_typeOf
  have x2 := x_assignable
  have m2 := m_assignable
  have k2 := typeOfC
  have k4 := assignCC
  have x3 := x_valueOf
  have x4 := x_vElem
  have x5 := x_set
  have v1 := valueOfC
  have el := elemVPC ⟨ab, 0, none⟩ ⟨tb, 0, none⟩ (w.alloc (.cells #[.pointer (some ⟨2, 84, none⟩), .pointer (some ⟨ab, 0, none⟩), .int .u64 150] 98)) (by rw [World.cell?_alloc_lt _ _ ⟨ab, 0, none⟩ hla]; exact ha)
  have st := setC ⟨tb, 0, none⟩ ⟨w.heap.size + 1, 0, none⟩ c old ((w.alloc (.cells #[.pointer (some ⟨2, 84, none⟩), .pointer (some ⟨ab, 0, none⟩), .int .u64 150] 98)).alloc (.cells #[.int .i64 c] 58))
    (by rw [World.cell?_alloc_at _ _ _ _ (by simp)]; rfl)
    (by rw [World.cell?_alloc_lt _ _ ⟨tb, 0, none⟩ (by simp; omega), World.cell?_alloc_lt _ _ ⟨tb, 0, none⟩ hlt]; exact ht)
    (by rw [World.frozen?_alloc_old _ _ ⟨tb, 0, none⟩ (by simp; omega), World.frozen?_alloc_old _ _ ⟨tb, 0, none⟩ (Nat.ne_of_lt hlt)]; exact hf)
  go_enter Tryd.func54, Tryd.ntmps54
  go_wp2
  refine wp_loop_rounds 1 ?_
  rw [rounds_succ]
  go_wp2
  go_ret
  exact ⟨rfl, SetB.mk2 _ _⟩
theorem As_nil (t : Value) (w : World) :
    Calls Tryd.prog 43 #[.nilIface, t] w fun e w' => e = .returned (.bool false) ∧ w = w' := by
  go_enter Tryd.func43, Tryd.ntmps43
  go_wp2
  go_ret
  exact ⟨rfl, rfl⟩
/-- The world in which errors.As calls errors.as: two new blocks. -/
def asW (T tb : Nat) (w : World) : World := (w.alloc (.cells #[.pointer (some ⟨tb, 0, none⟩)] T)).alloc (.cells #[.pointer (some ⟨2, T, none⟩), .pointer (some ⟨w.heap.size, 0, none⟩), .int .u64 150] 98)
set_option maxRecDepth 100000 in
set_option maxHeartbeats 4000000 in
/-- errors.As at *api.Code is errors.as behind two new blocks. -/
theorem As_C (u : Nat) (v : Value) (tb : Nat) (old : Value) (w : World) (hg : Glob w) (ht : w.cell? ⟨tb, 0, none⟩ = some old) (post : Ending → World → Prop)
    (h : Calls Tryd.prog 54 #[.iface u v, .iface 84 (.pointer (some ⟨tb, 0, none⟩)), .agg #[.pointer (some ⟨2, 84, none⟩), .pointer (some ⟨w.heap.size, 0, none⟩), .int .u64 150], .iface 110 (.agg #[.pointer (some ⟨2, 58, none⟩)])] (asW 84 tb w) fun ev w' => ∃ x, ev = .returned (.bool x) ∧ post ev w') :
    Calls Tryd.prog 43 #[.iface u v, .iface 84 (.pointer (some ⟨tb, 0, none⟩))] w post := by
  have x3 := x_valueOf
  have x4 := x_type
  have x5 := x_isNil
  have x6 := x_kind
  have x7 := x_elem
  have x8 := x_implements
  have m1 := m_kind
  have m2 := m_elem
  have m3 := m_implements
  have v1 := valueOfPC
  have t1 := typePC
  have k1 := kindPC
  have k2 := kindC
  have e1 := elemPC
  have i1 := implC
  have hlt := lt_of_cell ht
  have hlg : 0 < w.heap.size := lt_of_cell hg
  have n8 := isNilPC ⟨w.heap.size, 0, none⟩ ⟨tb, 0, none⟩ (asW 84 tb w) (by unfold asW; simp)
  have hg2 : (asW 84 tb w).cell? ⟨0, 0, none⟩ = some (.iface 110 (.agg #[.pointer (some ⟨2, 45, none⟩)])) := by
    unfold asW
    rw [World.cell?_alloc_lt _ _ ⟨0, 0, none⟩ (by simp), World.cell?_alloc_lt _ _ ⟨0, 0, none⟩ hlg]; exact hg
  have A : Aside (Calls _ _ _ _ _) := h
  clear h
  unfold asW at n8 hg2
  go_enter Tryd.func43, Tryd.ntmps43
  go_wp2_with fail
  refine A.out.mono ?_
  rintro ev w' ⟨x, rfl, hp⟩
  have B : Aside (post (.returned (.bool x)) w') := hp
  clear hp A
  go_wp2
  exact B.out
/-- What errors.As leaves is what errors.as leaves. -/
theorem asW_below (T tb : Nat) (w : World) : Below w.heap.size w (asW T tb w) :=
  ((Below.refl _ _).alloc (Nat.le_refl _) _).alloc (by simp) _
theorem asW_size (T tb : Nat) (w : World) : (asW T tb w).heap.size = w.heap.size + 2 := by simp [asW]
theorem asW_val (T tb : Nat) (w : World) : (asW T tb w).cell? ⟨w.heap.size, 0, none⟩ = some (.pointer (some ⟨tb, 0, none⟩)) := by
  unfold asW; rw [World.cell?_alloc_lt _ _ ⟨w.heap.size, 0, none⟩ (by simp)]; simp
theorem SetB.ofAs {T tb : Nat} {w w' : World} {v : Value} (hlt : tb < w.heap.size) (h : SetB (asW T tb w) tb v w') : SetB w tb v w' := by
  have e : (asW T tb w).setCell ⟨tb, 0, none⟩ v = ((w.setCell ⟨tb, 0, none⟩ v).alloc (.cells #[.pointer (some ⟨tb, 0, none⟩)] T)).alloc (.cells #[.pointer (some ⟨2, T, none⟩), .pointer (some ⟨w.heap.size, 0, none⟩), .int .u64 150] 98) := by
    unfold asW
    rw [World.setCell_alloc_past _ _ _ _ (by simp; omega), World.setCell_alloc_past _ _ _ _ hlt]
  unfold SetB at h ⊢
  rw [e] at h
  exact (SetB.mk2 _ _).trans (h.mono (by rw [asW_size]; omega))
/-- errors.As at *api.Code over a code. -/
theorem As_code (c : Int) (tb : Nat) (old : Value) (w : World) (hg : Glob w) (ht : w.cell? ⟨tb, 0, none⟩ = some old) (hf : w.frozen? ⟨tb, 0, none⟩ = false) :
    Calls Tryd.prog 43 #[.iface 58 (.int .i64 c), .iface 84 (.pointer (some ⟨tb, 0, none⟩))] w fun ev w' => ev = .returned (.bool true) ∧ SetB w tb (.int .i64 c) w' := by
  have hlt := lt_of_cell ht
  refine As_C _ _ tb old w hg ht _ ((as_code c tb w.heap.size old _ (asW_val _ _ _) ?_ ?_).mono ?_)
  · rw [(asW_below _ tb w).cell (p := ⟨tb, 0, none⟩) hlt]; exact ht
  · rw [(asW_below _ tb w).frozen (p := ⟨tb, 0, none⟩) hlt]; exact hf
  · rintro ev w' ⟨rfl, hs⟩
    exact ⟨_, rfl, rfl, hs.ofAs hlt⟩
set_option maxHeartbeats 1000000 in
theorem code_idle (p : Addr) (w : World) :
    CallsD Tryd.prog 42 #[.pointer (some p)] .returning w fun e u' w' => e = .returned (.tuple #[]) ∧ u' = .returning ∧ w' = w := by
  refine callsD_of_wpS Tryd.func42 rfl fun c₀ cs hu => ?_
  apply wpS_seq
  apply wpS_region
  simp [wpOpsS, go_sem, recoverD, hu, Tryd.ntmps42, Exit.thenS]
  refine wpS_cond (t := false) (by simp [Act.eval, Array.replicate]) ?_
  simp only [Bool.false_eq_true, if_false]
  refine wpS_of_wp (wp_skip ?_)
  cases c₀
  simp_all [bodyPostS, results, Tryd.results42]
theorem run_makeFunc (fn : Fn) (first cap : Array Value) (w : World) : (Instr.makeFunc fn first cap).run Tryd.prog w = .ok (.func fn first cap) w := rfl
theorem run_not (x : Bool) (w : World) : (Op.unary .not (.bool x)).run Tryd.prog w = .ok (.bool (!x)) w := rfl
set_option maxRecDepth 100000 in
set_option maxHeartbeats 4000000 in
theorem Code_code (c : Int) (w : World) (hg : Glob w) :
    Calls Tryd.prog 21 #[.iface 58 (.int .i64 c)] w fun ev w' => ev = .returned (.int .i64 c) ∧ Below w.heap.size w w' := by
  have hmf := run_makeFunc
  have hnot := run_not
  have hb : Below w.heap.size w (w.alloc (.cells #[.int .i64 0] 58)) := (Below.refl _ _).alloc (Nat.le_refl _) _
  have hC := As_code c w.heap.size (.int .i64 0) (w.alloc (.cells #[.int .i64 0] 58)) (hg.below hb) (by simp) (by simp [go_sem])
  have A : Aside (Calls _ _ _ _ _) := hC
  have B0 : Aside (Below _ _ _) := hb
  clear hC hg hb
  go_enter_defers Tryd.func21, Tryd.ntmps21
  go_wp2_with fail
  refine A.out.mono ?_
  rintro ev w1 ⟨rfl, hs⟩
  have hc1 := hs.cell (old := .int .i64 0) (by simp)
  have hf1 := hs.frozen w.heap.size (by simp)
  simp [go_sem] at hf1
  have B : Aside (Below _ _ _) := hs.below (by simp)
  have hlt := lt_of_cell hc1
  clear hs A
  go_wp2
  refine leaves_cons (f := 42) (args := #[.pointer (some ⟨w.heap.size, 0, none⟩)]) (by simp) (by simp [go_sem]) ?_
  refine (code_idle ⟨w.heap.size, 0, none⟩ _).mono ?_
  rintro e u' w'' ⟨rfl, rfl, rfl⟩
  have hd : Below w.heap.size w (w1.setCell ⟨w.heap.size, 0, none⟩ (.int .i64 c)) := (B0.out.trans B.out).setCell (Nat.le_refl _) _
  have hv : (w1.setCell ⟨w.heap.size, 0, none⟩ (.int .i64 c)).cell? ⟨w.heap.size, 0, none⟩ = some (.int .i64 c) := World.cell?_setCell_same' _ _ _ (by simp [hc1])
  have D : Aside (Below _ _ _) := hd
  clear hd B0 B
  simp [Leaves, settle, results, Tryd.results21, go_sem, hv]
  exact D.out
set_option maxHeartbeats 4000000 in
theorem Code_nil (w : World) :
    Calls Tryd.prog 21 #[.nilIface] w fun ev w' => ev = .returned (.int .i64 0) ∧ Below w.heap.size w w' := by
  have hmf := run_makeFunc
  have hnot := run_not
  go_enter_defers Tryd.func21, Tryd.ntmps21
  go_wp2_with fail
  refine (As_nil _ _).mono ?_
  rintro ev w1 ⟨rfl, rfl⟩
  go_wp2
  refine leaves_cons (f := 42) (args := #[.pointer (some ⟨w.heap.size, 0, none⟩)]) (by simp) (by simp [go_sem]) ?_
  refine (code_idle ⟨w.heap.size, 0, none⟩ _).mono ?_
  rintro e u' w'' ⟨rfl, rfl, rfl⟩
  simp [Leaves, settle, results, Tryd.results21, go_sem]
  exact (Below.refl _ _).alloc (Nat.le_refl _) _
end Go.Proofs.YtkbfhpgcjljbbaaDoor.Ea
