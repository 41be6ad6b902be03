/- Package install's settle, by contract. -/
import Derived.Test.YtabchlgbdlgacaaNsAt
import Derived.Deep.LoopGhost
import Derived.Deep.MidRow
namespace Go.Proofs.Ytabchlgbdlgacaa
open Go.RowKit

set_option maxRecDepth 100000 in
set_option maxHeartbeats 4000000 in
theorem nOver_nil (w : World) : Calls Try.prog 16 #[.pointer none] w fun ev w' => ev = .returned (.bool true) ∧ w = w' := by
  go_enter Try.func16, Try.ntmps16
  go_wp2
  go_ret
  exact ⟨rfl, rfl⟩
set_option maxRecDepth 100000 in
set_option maxHeartbeats 4000000 in
theorem nOver_any (w : World) (b : Nat) (i : Ins) (h : InsAt w b i) : Calls Try.prog 16 #[.pointer (some ⟨b, 0, none⟩)] w fun ev w' => ev = .returned (.bool ((i.st : Int) == 0)) ∧ w = w' := by
  have x := h.cSt
  clear h
  go_enter Try.func16, Try.ntmps16
  go_wp2
  go_ret
  exact ⟨rfl, rfl⟩
theorem funcNe (f : Fn) (a c : Array Value) (w : World) : (binOp .neq 49 (.func f a c) .nilFunc).run Try.prog w = .ok (.bool true) w := by
  have h : ∀ d : Nat, (Op.equalIn (d + 1) 49 (.func f a c) .nilFunc).run Try.prog w = .ok false w := fun d => by
    rw [Op.equalIn]
    simp [run_underlying Try.underlying49]
  simp only [binOp]
  simp [Op.equal, Op.maxDepth, h 9999]
theorem funcNil (w : World) : (binOp .neq 49 .nilFunc .nilFunc).run Try.prog w = .ok (.bool false) w := by kernel_rfl
/-- a function is there, or not -/
def Ins.hasF (i : Ins) : Bool := match i.fn with | .nilFunc => false | _ => true
def FnOk (v : Value) : Prop := v = .nilFunc ∨ ∃ f a c, v = .func f a c
def Ins.busyB (i : Ins) : Bool :=
  match i.st with
  | 1 => decide (i.tk < i.news)
  | 2 => i.hasF
  | 3 => decide (i.pt < i.news)
  | 4 => decide (i.sw < i.news)
  | 5 => decide (i.pt ≤ i.news)
  | 7 => decide (0 < i.pt)
  | 8 => decide (0 < i.tk)
  | _ => true
set_option maxRecDepth 100000 in
set_option maxHeartbeats 4000000 in
theorem busy_0 (w : World) (b : Nat) (i : Ins) (h : InsAt w b i) (hs : i.st = 0) : Calls Try.prog 59 #[.pointer (some ⟨b, 0, none⟩)] w fun ev w' => ev = .returned (.bool true) ∧ Below w.heap.size w w' := by
  have x5 := h.cSt
  rw [hs] at x5
  clear h hs
  go_enter Try.func59, Try.ntmps59
  go_wp2
  go_ret
  exact ⟨rfl, Below.refl _ _⟩
set_option maxRecDepth 100000 in
set_option maxHeartbeats 4000000 in
theorem busy_1 (w : World) (b : Nat) (i : Ins) (h : InsAt w b i) (hs : i.st = 1) : Calls Try.prog 59 #[.pointer (some ⟨b, 0, none⟩)] w fun ev w' => ev = .returned (.bool (decide (i.tk < i.news))) ∧ Below w.heap.size w w' := by
  have x5 := h.cSt
  rw [hs] at x5
  have y0 := h.cTk
  have y1 := h.cNews
  clear h hs
  go_enter Try.func59, Try.ntmps59
  go_wp2
  go_quiet (fail)
  go_wp2
  go_ret
  exact ⟨rfl, below_drewN (Below.refl _ _) _⟩
set_option maxRecDepth 100000 in
set_option maxHeartbeats 4000000 in
theorem busy_2n (w : World) (b : Nat) (i : Ins) (h : InsAt w b i) (hs : i.st = 2) (hf : i.fn = .nilFunc) : Calls Try.prog 59 #[.pointer (some ⟨b, 0, none⟩)] w fun ev w' => ev = .returned (.bool false) ∧ Below w.heap.size w w' := by
  have x5 := h.cSt
  rw [hs] at x5
  have y0 := h.cFn
  rw [hf] at y0
  have q := funcNil
  clear h hs
  go_enter Try.func59, Try.ntmps59
  go_wp2
  go_ret
  exact ⟨rfl, Below.refl _ _⟩
set_option maxRecDepth 100000 in
set_option maxHeartbeats 4000000 in
theorem busy_2f (w : World) (b : Nat) (i : Ins) (h : InsAt w b i) (hs : i.st = 2) {f : Fn} {a c : Array Value} (hf : i.fn = .func f a c) : Calls Try.prog 59 #[.pointer (some ⟨b, 0, none⟩)] w fun ev w' => ev = .returned (.bool true) ∧ Below w.heap.size w w' := by
  have x5 := h.cSt
  rw [hs] at x5
  have y0 := h.cFn
  rw [hf] at y0
  have q := funcNe
  clear h hs
  go_enter Try.func59, Try.ntmps59
  go_wp2
  go_ret
  exact ⟨rfl, Below.refl _ _⟩
set_option maxRecDepth 100000 in
set_option maxHeartbeats 4000000 in
theorem busy_3 (w : World) (b : Nat) (i : Ins) (h : InsAt w b i) (hs : i.st = 3) : Calls Try.prog 59 #[.pointer (some ⟨b, 0, none⟩)] w fun ev w' => ev = .returned (.bool (decide (i.pt < i.news))) ∧ Below w.heap.size w w' := by
  have x5 := h.cSt
  rw [hs] at x5
  have y0 := h.cPt
  have y1 := h.cNews
  clear h hs
  go_enter Try.func59, Try.ntmps59
  go_wp2
  go_quiet (fail)
  go_wp2
  go_ret
  exact ⟨rfl, below_drewN (Below.refl _ _) _⟩
set_option maxRecDepth 100000 in
set_option maxHeartbeats 4000000 in
theorem busy_4 (w : World) (b : Nat) (i : Ins) (h : InsAt w b i) (hs : i.st = 4) : Calls Try.prog 59 #[.pointer (some ⟨b, 0, none⟩)] w fun ev w' => ev = .returned (.bool (decide (i.sw < i.news))) ∧ Below w.heap.size w w' := by
  have x5 := h.cSt
  rw [hs] at x5
  have y0 := h.cSw
  have y1 := h.cNews
  clear h hs
  go_enter Try.func59, Try.ntmps59
  go_wp2
  go_quiet (fail)
  go_wp2
  go_ret
  exact ⟨rfl, below_drewN (Below.refl _ _) _⟩
set_option maxRecDepth 100000 in
set_option maxHeartbeats 4000000 in
theorem busy_5 (w : World) (b : Nat) (i : Ins) (h : InsAt w b i) (hs : i.st = 5) : Calls Try.prog 59 #[.pointer (some ⟨b, 0, none⟩)] w fun ev w' => ev = .returned (.bool (decide (i.pt ≤ i.news))) ∧ Below w.heap.size w w' := by
  have x5 := h.cSt
  rw [hs] at x5
  have y0 := h.cPt
  have y1 := h.cNews
  clear h hs
  go_enter Try.func59, Try.ntmps59
  go_wp2
  go_quiet (fail)
  go_wp2
  go_ret
  exact ⟨rfl, below_drewN (Below.refl _ _) _⟩
set_option maxRecDepth 100000 in
set_option maxHeartbeats 4000000 in
theorem busy_6 (w : World) (b : Nat) (i : Ins) (h : InsAt w b i) (hs : i.st = 6) : Calls Try.prog 59 #[.pointer (some ⟨b, 0, none⟩)] w fun ev w' => ev = .returned (.bool true) ∧ Below w.heap.size w w' := by
  have x5 := h.cSt
  rw [hs] at x5
  clear h hs
  go_enter Try.func59, Try.ntmps59
  go_wp2
  go_ret
  exact ⟨rfl, Below.refl _ _⟩
set_option maxRecDepth 100000 in
set_option maxHeartbeats 4000000 in
theorem busy_7 (w : World) (b : Nat) (i : Ins) (h : InsAt w b i) (hs : i.st = 7) : Calls Try.prog 59 #[.pointer (some ⟨b, 0, none⟩)] w fun ev w' => ev = .returned (.bool (decide (0 < i.pt))) ∧ Below w.heap.size w w' := by
  have x5 := h.cSt
  rw [hs] at x5
  have y0 := h.cPt
  clear h hs
  go_enter Try.func59, Try.ntmps59
  go_wp2
  go_ret
  exact ⟨rfl, Below.refl _ _⟩
set_option maxRecDepth 100000 in
set_option maxHeartbeats 4000000 in
theorem busy_8 (w : World) (b : Nat) (i : Ins) (h : InsAt w b i) (hs : i.st = 8) : Calls Try.prog 59 #[.pointer (some ⟨b, 0, none⟩)] w fun ev w' => ev = .returned (.bool (decide (0 < i.tk))) ∧ Below w.heap.size w w' := by
  have x5 := h.cSt
  rw [hs] at x5
  have y0 := h.cTk
  clear h hs
  go_enter Try.func59, Try.ntmps59
  go_wp2
  go_ret
  exact ⟨rfl, Below.refl _ _⟩
theorem busy_any (w : World) (b : Nat) (i : Ins) (h : InsAt w b i) (hs : i.st ≤ 8) (hf : FnOk i.fn) : Calls Try.prog 59 #[.pointer (some ⟨b, 0, none⟩)] w fun ev w' => ev = .returned (.bool i.busyB) ∧ Below w.heap.size w w' := by
  have hr : i.st = 0 ∨ i.st = 1 ∨ i.st = 2 ∨ i.st = 3 ∨ i.st = 4 ∨ i.st = 5 ∨ i.st = 6 ∨ i.st = 7 ∨ i.st = 8 := by omega
  unfold Ins.busyB
  rcases hr with e | e | e | e | e | e | e | e | e <;> rw [e]
  · exact busy_0 w b i h e
  · exact busy_1 w b i h e
  · rcases hf with q | ⟨f, a, c, q⟩
    · simp only [Ins.hasF, q]; exact busy_2n w b i h e q
    · simp only [Ins.hasF, q]; exact busy_2f w b i h e q
  · exact busy_3 w b i h e
  · exact busy_4 w b i h e
  · exact busy_5 w b i h e
  · exact busy_6 w b i h e
  · exact busy_7 w b i h e
  · exact busy_8 w b i h e

open Go.RowKit

def rcZ (o : Nat) : Value := (recCells Sc.zero (.slice none 0 0) (.slice none 0 0)).getD o undef
def Ins.zero (er : Value) : Ins := { page := 0, os := 0, og := 0, news := 0, fn := .nilFunc, st := 0, pg := fun _ => 0, rc := fun _ => rcZ, rf := fun _ => (0, 0), tk := 0, pt := 0, sw := 0, dn := false, er := er }
def ErV (v : Value) : Prop := v = .nilIface ∨ ∃ t x, v = .iface t x
def settleGo : Nat → Ins → Ins
  | 0, i => i
  | g + 1, i => if i.busyB then i else if i.st = 8 then Ins.zero i.er else settleGo g { i with st := i.st + 1 }
def settleI (i : Ins) : Ins := settleGo (9 - i.st) i
theorem insInfo : (Try.prog.info? 92).map (·.size) = some 100 := by kernel_rfl
theorem InsAt.there {w : World} {b : Nat} {i : Ins} (h : InsAt w b i) : w.there b 0 100 := blk_there h.blk 100 (Nat.le_refl _)
theorem InsAt.laid {w : World} {b : Nat} {i : Ins} (h : InsAt w b i) (j : Ins) : InsAt (w.setCells b 0 j.list) b j := ⟨list_laid j.list h.blk rfl⟩
theorem zero_one {er : Value} (h : ErV er) : (Ins.zero er).list.toArray.all (fun x => x.oneCell') = true := by
  rcases h with rfl | ⟨t, x, rfl⟩ <;> kernel_rfl
section
variable {P : Program}
theorem run_build_to {op : Oper} {a : Act} {w : World} {K : Act → World → Prop} {Q : Exit → Act → World → Prop} (t : TypeId) (parts : Array (Nat × Operand)) (ho : op.op = .build t parts) (cells : Array Value)
    (hb : P.built t (parts.toList.map fun p => (p.1, a.eval p.2)) = some cells) (h : K (a.put op.dst (.agg cells)) w) : op.wp P a w K Q := by
  have hb' : P.built t (parts.map fun (i, x) => (i, a.eval x)).toList = some cells := by rw [Array.toList_map]; exact hb
  unfold Oper.wp execOp
  simp only [ho, Sem.run_bind, run_build w t _ cells hb', Result.andThen_ok]
  exact h
theorem wpList_build_to {ops : Array Oper} {rest : List Oper} {op : Oper} {a : Act} {w : World} {Q : Exit → Act → World → Prop} (hgd : op.guard = none) (t : TypeId) (parts : Array (Nat × Operand)) (ho : op.op = .build t parts) (cells : Array Value)
    (hb : P.built t (parts.toList.map fun p => (p.1, a.eval p.2)) = some cells) (h : wpList P ops Q rest (a.put op.dst (.agg cells)) w) : wpList P ops Q (op :: rest) a w :=
  wpList_plain hgd fun _ hK => run_build_to t parts ho cells hb (hK _ _ h)
theorem yieldsIf_build_to {ops : Array Oper} {S : World → Prop} {op : Oper} {a : Act} (hw : Region.wanted op (yielded ops a.tmps) = true) (t : TypeId) (parts : Array (Nat × Operand)) (ho : op.op = .build t parts) (cells : Array Value)
    (hb : P.built t (parts.toList.map fun p => (p.1, a.eval p.2)) = some cells) : YieldsIf P ops S op (.agg cells) a :=
  .inl ⟨hw, fun w _ => by
    have hb' : P.built t (parts.map fun (i, x) => (i, a.eval x)).toList = some cells := by rw [Array.toList_map]; exact hb
    unfold execOp
    simp only [ho, Sem.run_bind, run_build w t _ cells hb', Result.andThen_ok]
    rfl⟩
end
theorem built_zero {er : Value} (h : ErV er) : Try.prog.built 92 [(9, er)] = some (Ins.zero er).list.toArray := by
  rcases h with rfl | ⟨t, x, rfl⟩ <;> kernel_rfl
set_option maxRecDepth 100000 in
set_option maxHeartbeats 4000000 in
theorem settle_any (w : World) (b : Nat) (i : Ins) (h : InsAt w b i) (hs : i.st ≤ 8) (hf : FnOk i.fn) (he : ErV i.er) :
    Calls Try.prog 38 #[.pointer (some ⟨b, 0, none⟩)] w fun ev w' => ev = .returned (.tuple #[]) ∧ InsAt w' b (settleI i) ∧ Kept (fun k => k = b) w w' := by
  go_enter Try.func38, Try.ntmps38
  go_wp2_with fail
  go_loopg [] (9 - i.st) (fun g wr => ∃ j, InsAt wr b j ∧ j.st + g = 9 ∧ j.st ≤ 8 ∧ FnOk j.fn ∧ ErV j.er ∧ settleI i = settleGo g j ∧ Kept (fun k => k = b) w wr)
  case atStart => exact ⟨i, h, by omega, hs, hf, he, rfl, Kept.refl _ _⟩
  case round =>
    clear h hs hf he
    obtain ⟨j, hI, hg, h8, hf, he, hE, hK⟩ := hrel
    have I0 := Lib.hid hI
    have G0 := Lib.hid hg
    have H0 := Lib.hid h8
    have F0 := Lib.hid hf
    have V0 := Lib.hid he
    have E0 := Lib.hid hE
    have K0 := Lib.hid hK
    clear hI hg h8 hf he hE hK
    go_wp2_with fail
    refine (busy_any _ b j I0.out H0.out F0.out).mono ?_
    rintro ev w1 ⟨rfl, hs⟩
    have I1 := Lib.hid (I0.out.step hs)
    have K1 := Lib.hid (K0.out.trans (Kept.of_below hs))
    clear hs
    obtain ⟨g, rfl⟩ : ∃ g, gk = g + 1 := ⟨gk - 1, by have := G0.out; have := H0.out; omega⟩
    cases hb : j.busyB with
    | true =>
      have e : settleI i = j := by rw [E0.out, settleGo, if_pos hb]
      have E1 := Lib.hid e
      clear hb e
      go_wp2
      go_end0
      rw [E1.out]
      exact ⟨rfl, I1.out, K1.out⟩
    | false =>
      have HB := Lib.hid hb
      clear hb
      by_cases h9 : j.st = 8
      · have x5 := I1.out.cSt
        rw [h9] at x5
        have x9 := I1.out.cEr
        have E1 := Lib.hid (show settleI i = Ins.zero j.er by rw [E0.out, settleGo, if_neg (by rw [HB.out]; decide), if_pos h9])
        have T1 := Lib.hid I1.out.there
        have L1 := Lib.hid (I1.out.laid (Ins.zero j.er))
        have O1 := Lib.hid (zero_one V0.out)
        have K2 := Lib.hid (K1.out.trans (Kept.setCells (Ins.zero j.er).list 0 w1 (Kept.refl (fun k => k = b) w1)))
        clear h9
        generalize j.er = er at *
        have Z1 := Lib.hid (built_zero V0.out)
        go_wp2_with (first | (refine wpList_build_to rfl 92 _ rfl (Ins.zero er).list.toArray Z1.out ?_) | (refine wpList_store_mid rfl 92 (.tmp 16) (.tmp 15) rfl b 0 (Ins.zero er).list.toArray rfl rfl T1.out insInfo O1.out ?_))
        simp only [Act.put]
        refine bodyPost_ret (results_none rfl _ _ _) rfl ?_
        rw [E1.out]
        exact ⟨rfl, L1.out, K2.out⟩
      · have x5 := I1.out.cSt
        have fz := I1.out.free 5
        have hw : IntKind.i64.wrap ((j.st : Int) + 1) = ((j.st + 1 : Nat) : Int) := by rw [Go.IntWalk.i64_in _ (by have := H0.out; omega)]; omega
        have n8 : ¬ (j.st : Int) = 8 := by omega
        have E1 := Lib.hid (show settleI i = settleGo g { j with st := j.st + 1 } by rw [E0.out, settleGo, if_neg (by rw [HB.out]; decide), if_neg h9])
        have H9 := Lib.hid h9
        have J1 := Lib.hid (I1.out.sSt (j.st + 1))
        have K2 := Lib.hid (K1.out.setCell 5 (.int .i64 ((j.st + 1 : Nat) : Int)))
        clear h9
        go_wp2_with fail
        go_roundg g
        case measure => omega
        case rel =>
          have h1 := G0.out
          have h2 := H0.out
          have h3 := H9.out
          exact ⟨_, J1.out, by simp only; omega, by simp only; omega, F0.out, V0.out, E1.out, K2.out⟩
end Go.Proofs.Ytabchlgbdlgacaa
