/- What package inner owes (layer 8), as one bundle of contracts over the plain model; out of it the laws' own 'awake'. -/
import Derived.Test.YtkkmfacngmginaaInOwn
import Derived.Test.YtkkmfacngmginaaInGood
namespace Go.Proofs.Ytkkmfacngmginaa
open Go.RowKit

def errV (e : Int) : Value := if e = 0 then .nilIface else .iface 73 (.int .i64 e)
theorem errV_zero {e : Int} (h : e = 0) : errV e = .nilIface := by unfold errV; rw [if_pos h]
theorem errV_code {e : Int} (h : e ≠ 0) : errV e = .iface 73 (.int .i64 e) := by unfold errV; rw [if_neg h]
def ivVal (v : IvD) (en : Value) : Value := .agg #[.string v.low, .string v.high, .bool v.unb, .int .i64 v.right, en, .bool v.held, .int .i64 v.hp, .int .i64 v.hl, .string v.hk]
def ivObj (v : IvD) (en : Value) : Obj := .cells #[.string v.low, .string v.high, .bool v.unb, .int .i64 v.right, en, .bool v.held, .int .i64 v.hp, .int .i64 v.hl, .string v.hk] 29
def entVal (e : En) : Value := .agg #[.string e.1, .int .i64 e.2]
def entObj (e : En) : Obj := .cells #[.string e.1, .int .i64 e.2] 44
def hdVal (p l : Int) (k : ByteArray) : Value := .agg #[.int .i64 p, .int .i64 l, .string k]
/-- block n holds a view -/
structure VB (n : Nat) (v : IvD) (en : Value) (w : World) : Prop where
  c0 : w.cell? ⟨n, 0, none⟩ = some (.string v.low)
  c1 : w.cell? ⟨n, 1, none⟩ = some (.string v.high)
  c2 : w.cell? ⟨n, 2, none⟩ = some (.bool v.unb)
  c3 : w.cell? ⟨n, 3, none⟩ = some (.int .i64 v.right)
  c4 : w.cell? ⟨n, 4, none⟩ = some en
  c5 : w.cell? ⟨n, 5, none⟩ = some (.bool v.held)
  c6 : w.cell? ⟨n, 6, none⟩ = some (.int .i64 v.hp)
  c7 : w.cell? ⟨n, 7, none⟩ = some (.int .i64 v.hl)
  c8 : w.cell? ⟨n, 8, none⟩ = some (.string v.hk)
theorem VB.below {n : Nat} {v : IvD} {en : Value} {w w' : World} (h : VB n v en w) (hs : Below w.heap.size w w') : VB n v en w' :=
  ⟨cell_step h.c0 hs, cell_step h.c1 hs, cell_step h.c2 hs, cell_step h.c3 hs, cell_step h.c4 hs, cell_step h.c5 hs, cell_step h.c6 hs, cell_step h.c7 hs, cell_step h.c8 hs⟩
theorem VB.new (v : IvD) (en : Value) (w : World) : VB w.heap.size v en (w.alloc (ivObj v en)) :=
  ⟨by rw [ivObj, World.cell?_alloc_at _ _ _ _ rfl]; rfl, by rw [ivObj, World.cell?_alloc_at _ _ _ _ rfl]; rfl, by rw [ivObj, World.cell?_alloc_at _ _ _ _ rfl]; rfl, by rw [ivObj, World.cell?_alloc_at _ _ _ _ rfl]; rfl, by rw [ivObj, World.cell?_alloc_at _ _ _ _ rfl]; rfl, by rw [ivObj, World.cell?_alloc_at _ _ _ _ rfl]; rfl, by rw [ivObj, World.cell?_alloc_at _ _ _ _ rfl]; rfl, by rw [ivObj, World.cell?_alloc_at _ _ _ _ rfl]; rfl, by rw [ivObj, World.cell?_alloc_at _ _ _ _ rfl]; rfl⟩
/-- block n holds an entry -/
structure EB (n : Nat) (e : En) (w : World) : Prop where
  c0 : w.cell? ⟨n, 0, none⟩ = some (.string e.1)
  c1 : w.cell? ⟨n, 1, none⟩ = some (.int .i64 e.2)
theorem EB.below {n : Nat} {e : En} {w w' : World} (h : EB n e w) (hs : Below w.heap.size w w') : EB n e w' := ⟨cell_step h.c0 hs, cell_step h.c1 hs⟩
theorem EB.new (e : En) (w : World) : EB w.heap.size e (w.alloc (entObj e)) := ⟨by rw [entObj, World.cell?_alloc_at _ _ _ _ rfl]; rfl, by rw [entObj, World.cell?_alloc_at _ _ _ _ rfl]; rfl⟩
structure SzI (v : IvD) : Prop where
  low : v.low.size ≤ maxLen
  high : v.high.size ≤ maxLen
  hk : v.hk.size ≤ maxLen
  ents : SmallE v.ents
/-- a record in memory of a call's own -/
def RecO (base : Nat) (w : World) (v : Value) (r : RecD) : Prop := ∃ d : RcD, v = recVal d.sc d.rv d.en ∧ RcO base w d ∧ d.d = r
def childC (v : IvD) (k : ByteArray) : Int := if (childI v k).isSome = true then 0 else 2
def holdE (v : IvD) (p : Int) : Value × Int := match pageE v.ents p with
  | some i => (hdVal p (v.ents.getD i e0).2 (v.ents.getD (i + 1) e0).1, 0)
  | none => (hdVal 0 0 ⟨#[]⟩, 6)
def whyI (v : IvD) : Int := if v.held = true then 13 else if v.ents.length < 2 then 2 else 0
def halfK (v : IvD) : ByteArray := (v.ents.getD (v.ents.length / 2) e0).1
def baseR (v : IvD) : RecD := baseI7 v.low v.high v.unb v.right v.ents
def leftR (v : IvD) (right : Int) : RecD := baseI7 v.low (halfK v) false right (v.ents.take (v.ents.length / 2))
def rightR (v : IvD) : RecD := baseI7 (halfK v) v.high v.unb v.right (v.ents.drop (v.ents.length / 2))
def topR (v : IvD) (left right : Int) : RecD := baseI7 v.low v.high v.unb v.right [(v.low, left), (halfK v, right)]
structure InC : Prop where
  fold : ∀ (base : Nat) (u : Value) (ds : List RcD) (w : World), ChO base w u ds → ds.length ≤ 100 → (ds.map fun d => d.ents.length).sum ≤ 1000 →
    Calls Try.prog 9 #[u] w fun ev w' => ∃ en, ev = .returned (.tuple #[ivVal (viewI (readC ds)) en, errV (codeI (readC ds))]) ∧ OwnS lEnt w.heap.size w' en (viewI (readC ds)).ents ∧ SzI (viewI (readC ds)) ∧ Below w.heap.size w w'
  child : ∀ (base : Nat) (v : IvD) (en : Value) (key : ByteArray) (w : World), OwnS lEnt base w en v.ents → risE none v.ents = true → v.ents.length ≤ 1000 → SzI v → key.size ≤ maxLen →
    Calls Try.prog 13 #[ivVal v en, .string key] w fun ev w' => ev = .returned (.tuple #[entVal ((childI v key).getD e0), errV (childC v key)]) ∧ Below w.heap.size w w'
  has : ∀ (base : Nat) (v : IvD) (en : Value) (key : ByteArray) (w : World), OwnS lEnt base w en v.ents → risE none v.ents = true → v.ents.length ≤ 1000 → SzI v → key.size ≤ maxLen →
    Calls Try.prog 42 #[ivVal v en, .string key] w fun ev w' => ev = .returned (.bool (atE v.ents key).isSome) ∧ Below w.heap.size w w'
  base : ∀ (base : Nat) (v : IvD) (en : Value) (w : World), OwnS lEnt base w en v.ents → v.ents.length ≤ 1000 → SzI v →
    Calls Try.prog 49 #[ivVal v en] w fun ev w' => ∃ r, ev = .returned r ∧ RecO w.heap.size w' r (baseR v) ∧ Below w.heap.size w w'
  split : ∀ (base : Nat) (v : IvD) (en : Value) (p : Int) (w : World), OwnS lEnt base w en v.ents → v.ents.length ≤ 1000 → SzI v → whyI v = 0 →
    Calls Try.prog 11 #[ivVal v en, .int .i64 p] w fun ev w' => ∃ a b, ev = .returned (.tuple #[a, b, .nilIface]) ∧ RecO w.heap.size w' a (splitI9 (halfK v) p) ∧ RecO w.heap.size w' b (rightR v) ∧ Below w.heap.size w w'
  splitNo : ∀ (base : Nat) (v : IvD) (en : Value) (p : Int) (w : World), OwnS lEnt base w en v.ents → v.ents.length ≤ 1000 → SzI v → whyI v ≠ 0 →
    Calls Try.prog 11 #[ivVal v en, .int .i64 p] w fun ev w' => ∃ a b, ev = .returned (.tuple #[a, b, .iface 73 (.int .i64 (whyI v))]) ∧ RecO w.heap.size w' a RecD.zero ∧ RecO w.heap.size w' b RecD.zero ∧ Below w.heap.size w w'
  grow : ∀ (base : Nat) (v : IvD) (en : Value) (l r : Int) (w : World), OwnS lEnt base w en v.ents → v.ents.length ≤ 1000 → SzI v → whyI v = 0 →
    Calls Try.prog 14 #[ivVal v en, .int .i64 l, .int .i64 r] w fun ev w' => ∃ a b t, ev = .returned (.tuple #[a, b, t, .nilIface]) ∧ RecO w.heap.size w' a (leftR v r) ∧ RecO w.heap.size w' b (rightR v) ∧ RecO w.heap.size w' t (topR v l r) ∧ Below w.heap.size w w'
  growNo : ∀ (base : Nat) (v : IvD) (en : Value) (l r : Int) (w : World), OwnS lEnt base w en v.ents → v.ents.length ≤ 1000 → SzI v → whyI v ≠ 0 →
    Calls Try.prog 14 #[ivVal v en, .int .i64 l, .int .i64 r] w fun ev w' => ∃ a b t, ev = .returned (.tuple #[a, b, t, .iface 73 (.int .i64 (whyI v))]) ∧ RecO w.heap.size w' a RecD.zero ∧ RecO w.heap.size w' b RecD.zero ∧ RecO w.heap.size w' t RecD.zero ∧ Below w.heap.size w w'

/-! ### awake -/
def kM : ByteArray := ⟨#[109]⟩
def kA : ByteArray := ⟨#[97]⟩
def awD1 : RcD := ⟨{ Sc.zero with kind := 8, key := kM, page := 2 }, none, 0, none, 0, [], []⟩
def awD2 (n : Nat) : RcD := ⟨{ Sc.zero with kind := 7, unb := true }, none, 0, some ⟨n, 0, none⟩, 1, [], [(⟨#[]⟩, 1)]⟩
def awV : IvD := ⟨⟨#[]⟩, ⟨#[]⟩, true, 0, [(⟨#[]⟩, 1), (kM, 2)], false, 0, 0, ⟨#[]⟩⟩
theorem awRead (n : Nat) : readC [awD1, awD2 n] = [⟨{ Sc.zero with kind := 8, key := kM, page := 2 }, [], []⟩, ⟨{ Sc.zero with kind := 7, unb := true }, [], [(⟨#[]⟩, 1)]⟩] := rfl
theorem awFold : viewI [⟨{ Sc.zero with kind := 8, key := kM, page := 2 }, [], []⟩, ⟨{ Sc.zero with kind := 7, unb := true }, [], [(⟨#[]⟩, 1)]⟩] = awV ∧ codeI [⟨{ Sc.zero with kind := 8, key := kM, page := 2 }, [], []⟩, ⟨{ Sc.zero with kind := 7, unb := true }, [], [(⟨#[]⟩, 1)]⟩] = 0 := ⟨by kernel_rfl, by kernel_rfl⟩
theorem awA : childI awV kA = some (⟨#[]⟩, 1) := by kernel_rfl
theorem awM : childI awV kM = some (kM, 2) := by kernel_rfl
theorem awAt : (atE awV.ents kM).isSome = true := by kernel_rfl
theorem awRis : risE none awV.ents = true := by kernel_rfl
theorem awChain (w : World) : ChO w.heap.size ((w.alloc (.cells #[.string ⟨#[]⟩, .int .i64 1] 44)).alloc (.cells (lRec.flat [awD1, awD2 w.heap.size]).toArray 39)) (.slice (some ⟨w.heap.size + 1, 0, none⟩) 2 2) [awD1, awD2 w.heap.size] := by
  have b1 := alloc_below0 w (.cells #[.string ⟨#[]⟩, .int .i64 1] 44)
  have e1 : OwnS lEnt w.heap.size (w.alloc (.cells #[.string ⟨#[]⟩, .int .i64 1] 44)) (.slice (some ⟨w.heap.size, 0, none⟩) 1 1) [(⟨#[]⟩, 1)] := OwnS.lit lEnt w.heap.size w w.heap.size rfl [(⟨#[]⟩, 1)] (Nat.le_refl _) (show 1 ≤ maxLen by decide)
  have hz : (w.alloc (.cells #[.string ⟨#[]⟩, .int .i64 1] 44)).heap.size = w.heap.size + 1 := by simp
  have c1 := OwnS.lit lRec w.heap.size (w.alloc (.cells #[.string ⟨#[]⟩, .int .i64 1] 44)) (w.heap.size + 1) hz [awD1, awD2 w.heap.size] (by omega) (show 2 ≤ maxLen by decide)
  have b2 := alloc_below0 (w.alloc (.cells #[.string ⟨#[]⟩, .int .i64 1] 44)) (.cells (lRec.flat [awD1, awD2 w.heap.size]).toArray 39)
  have z0 : (⟨#[]⟩ : ByteArray).size ≤ maxLen := by decide
  refine ⟨c1, fun d hd => ?_⟩
  simp only [List.mem_cons, List.not_mem_nil, or_false] at hd
  rcases hd with rfl | rfl
  · exact ⟨OwnS.nil _ _ _, OwnS.nil _ _ _, ⟨z0, z0, by decide, z0, z0⟩, Small.nil, (fun _ h => by cases h), by decide, by decide⟩
  · exact ⟨OwnS.nil _ _ _, e1.below b2, ⟨z0, z0, z0, z0, z0⟩, Small.nil, (fun e h => by simp only [awD2, List.mem_cons, List.not_mem_nil, or_false] at h; subst h; exact z0), by show 32 * 0 ≤ _; decide, by show 24 * 1 ≤ _; decide⟩
set_option maxRecDepth 100000 in
set_option maxHeartbeats 4000000 in
theorem awakeI (C : InC) (w : World) : Calls Try.prog 8 #[] w fun ev w' => ev = .returned (.bool true) ∧ Below w.heap.size w w' := by
  have hnot : ∀ (x : Bool) (w : World), (Op.unary .not (.bool x)).run Try.prog w = .ok (.bool (!x)) w := fun _ _ => rfl
  have K0 := Lib.hid (awChain w)
  have B0 := Lib.hid (show Below w.heap.size w ((w.alloc (.cells #[.string ⟨#[]⟩, .int .i64 1] 44)).alloc (.cells (lRec.flat [awD1, awD2 w.heap.size]).toArray 39)) from (alloc_below0 w _).trans ((alloc_below0 _ _).mono (alloc_below0 w _).size))
  go_enter Try.func8, Try.ntmps8
  go_wp2_with fail
  refine (C.fold w.heap.size _ [awD1, awD2 w.heap.size] _ K0.out (show 2 ≤ 100 by decide) (show 0 + (1 + 0) ≤ 1000 by decide)).mono ?_
  rintro ev w1 ⟨en, rfl, hen, hsz, hs⟩
  rw [awRead, awFold.1] at hen hsz
  rw [awRead, awFold.1, awFold.2, errV_zero rfl]
  obtain ⟨xa, xc, rfl, -, -⟩ := hen.lenN (show awV.ents.length = 2 from rfl)
  have B1 := Lib.hid (B0.out.trans (hs.mono B0.out.size))
  clear B0
  have E0 := Lib.hid (hen)
  have Z0 := Lib.hid (hsz)
  clear hs hen hsz K0
  unfold ivVal
  have hs := alloc_below0 w1 (ivObj awV (.slice xa 2 xc))
  have B2 := Lib.hid (B1.out.trans (hs.mono B1.out.size))
  have E1 := Lib.hid (E0.out.below hs)
  clear B1 E0
  have V0 := Lib.hid (VB.new awV (.slice xa 2 xc) w1)
  clear hs
  unfold ivObj at B2 E1 V0
  have v_0 := V0.out.c0
  have v_1 := V0.out.c1
  have v_2 := V0.out.c2
  have v_3 := V0.out.c3
  have v_4 := V0.out.c4
  have v_5 := V0.out.c5
  have v_6 := V0.out.c6
  have v_7 := V0.out.c7
  have v_8 := V0.out.c8
  go_wp2_with fail
  refine (C.child _ awV (.slice xa 2 xc) kA _ E1.out awRis (show 2 ≤ 1000 by decide) Z0.out (show 1 ≤ maxLen by decide)).mono ?_
  rintro ev w2 ⟨rfl, hs⟩
  rw [show childC awV kA = 0 by unfold childC; rw [awA]; rfl, awA, errV_zero rfl]
  clear v_0 v_1 v_2 v_3 v_4 v_5 v_6 v_7 v_8
  have B3 := Lib.hid (B2.out.trans (hs.mono B2.out.size))
  have E2 := Lib.hid (E1.out.below hs)
  have V1 := Lib.hid (V0.out.below hs)
  clear B2 E1 V0
  clear hs
  unfold entVal
  simp only [Option.getD_some]
  have hs := alloc_below0 w2 (entObj (⟨#[]⟩, 1))
  have B4 := Lib.hid (B3.out.trans (hs.mono B3.out.size))
  have E3 := Lib.hid (E2.out.below hs)
  have V2 := Lib.hid (V1.out.below hs)
  clear B3 E2 V1
  have X0 := Lib.hid (EB.new (⟨#[]⟩, 1) w2)
  clear hs
  unfold entObj at B4 E3 V2 X0
  have v_0 := V2.out.c0
  have v_1 := V2.out.c1
  have v_2 := V2.out.c2
  have v_3 := V2.out.c3
  have v_4 := V2.out.c4
  have v_5 := V2.out.c5
  have v_6 := V2.out.c6
  have v_7 := V2.out.c7
  have v_8 := V2.out.c8
  go_wp2_with fail
  refine (C.child _ awV (.slice xa 2 xc) kM _ E3.out awRis (show 2 ≤ 1000 by decide) Z0.out (show 1 ≤ maxLen by decide)).mono ?_
  rintro ev w3 ⟨rfl, hs⟩
  rw [show childC awV kM = 0 by unfold childC; rw [awM]; rfl, awM, errV_zero rfl]
  clear v_0 v_1 v_2 v_3 v_4 v_5 v_6 v_7 v_8
  have B5 := Lib.hid (B4.out.trans (hs.mono B4.out.size))
  have E4 := Lib.hid (E3.out.below hs)
  have V3 := Lib.hid (V2.out.below hs)
  have X1 := Lib.hid (X0.out.below hs)
  clear B4 E3 V2 X0
  clear hs
  unfold entVal
  simp only [Option.getD_some]
  have hs := alloc_below0 w3 (entObj (kM, 2))
  have B6 := Lib.hid (B5.out.trans (hs.mono B5.out.size))
  have E5 := Lib.hid (E4.out.below hs)
  have V4 := Lib.hid (V3.out.below hs)
  have X2 := Lib.hid (X1.out.below hs)
  clear B5 E4 V3 X1
  have Y0 := Lib.hid (EB.new (kM, 2) w3)
  clear hs
  unfold entObj at B6 E5 V4 X2 Y0
  have v_0 := V4.out.c0
  have v_1 := V4.out.c1
  have v_2 := V4.out.c2
  have v_3 := V4.out.c3
  have v_4 := V4.out.c4
  have v_5 := V4.out.c5
  have v_6 := V4.out.c6
  have v_7 := V4.out.c7
  have v_8 := V4.out.c8
  have x_0 := X2.out.c0
  have x_1 := X2.out.c1
  have y_0 := Y0.out.c0
  have y_1 := Y0.out.c1
  go_wp2_with fail
  refine (C.has _ awV (.slice xa 2 xc) kM _ E5.out awRis (show 2 ≤ 1000 by decide) Z0.out (show 1 ≤ maxLen by decide)).mono ?_
  rintro ev w4 ⟨rfl, hs⟩
  rw [awAt]
  clear v_0 v_1 v_2 v_3 v_4 v_5 v_6 v_7 v_8 x_0 x_1 y_0 y_1
  have B7 := Lib.hid (B6.out.trans (hs.mono B6.out.size))
  have E6 := Lib.hid (E5.out.below hs)
  have V5 := Lib.hid (V4.out.below hs)
  have X3 := Lib.hid (X2.out.below hs)
  have Y1 := Lib.hid (Y0.out.below hs)
  clear B6 E5 V4 X2 Y0
  clear hs
  go_wp2
  go_ret
  exact ⟨rfl, B7.out⟩
end Go.Proofs.Ytkkmfacngmginaa
