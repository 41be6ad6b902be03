/- Law InstallNobody: its walk. -/
import Derived.Test.YtabchlgbdlgacaaNsHead
import Derived.Test.YtabchlgbdlgacaaNsStepB
import Derived.Test.YtabchlgbdlgacaaNsStepC
import Derived.Test.YtabchlgbdlgacaaMmChain
namespace Go.Proofs.Ytabchlgbdlgacaa
open Go.RowKit

def awD : RecD := ⟨{ Sc.zero with kind := 3, key := ⟨#[97]⟩, ns := 1, ng := 1 }, [], []⟩
theorem built_aw : Try.prog.built 44 [(0, .int .i64 3), (7, .string ⟨#[97]⟩), (11, .agg #[.int .i64 1, .int .i64 1])] = some (recCells awD.sc (.slice none 0 0) (.slice none 0 0)).toArray := by kernel_rfl
theorem aw_one : (recCells awD.sc (.slice none 0 0) (.slice none 0 0)).toArray.all (fun x => x.oneCell') = true := by kernel_rfl
theorem RecsV.none (w : World) (T : Nat → Prop) : RecsV w T (.slice none 0 0) [] [] := ⟨SV.nil _ _, (fun _ _ _ e => by cases e), rfl, by simp, (fun j x d h => by simp at h)⟩
theorem Out.none {T : Nat → Prop} : Out T (.slice none 0 0) := fun _ _ _ e => by cases e
theorem results_tmpC {fn : Func} {p u : Tmp} {ty : TypeId} (h : fn.results = #[.tmp u, .cell p ty]) (tmps : Array Value) (w : World) (b : Nat) (cs : List Value) (d : TypeDesc) (ev : Value) (hp : tmps.getD p undef = .pointer (some ⟨b, 0, none⟩)) (hev : tmps.getD u undef = ev) (hc : w.rangeAt b 0 cs)
    (hu : Try.prog.underlying ty = some d) (hd : d.isRow = true) (hi : (Try.prog.info? ty).map (·.size) = some cs.length) : (results fn tmps).run Try.prog w = .ok (.tuple #[ev, .agg cs.toArray]) w := by
  have hl := run_loadVar_mid w b 0 ty cs d hc hu hd hi
  have e1 : tmps[p]?.getD undef = .pointer (some ⟨b, 0, none⟩) := by simpa using hp
  have e2 : tmps[u]?.getD undef = ev := by simpa using hev
  simp only [results, h]
  simp [e1, e2, asAddr, hl]
theorem hF_aw : ∀ args w, (callFunc 27 args).run Try.prog w = .ok (.enter 27 args) w := fun args w => by simp [go_sem]
set_option maxRecDepth 100000 in
set_option maxHeartbeats 4000000 in
theorem awake1_any (hb : Nat) (pv : Value) (w : World) (h : RfB w hb 1 1) : Calls Try.prog 27 (#[pv] ++ #[.pointer (some ⟨hb, 0, none⟩)]) w (MadeP w (fun k => False ∨ pv.ownBlock = some k) [] awD) := by
  have B0 := Lib.hid (alloc_below0 w (.cells #[.int .i64 0, .string ⟨#[]⟩, .string ⟨#[]⟩, .bool false, .int .i64 0, .slice none 0 0, .slice none 0 0, .string ⟨#[]⟩, .string ⟨#[]⟩, .int .i64 0, .int .i64 0, .int .i64 0, .string ⟨#[]⟩, .int .i64 0, .int .i64 0] 44))
  have X0 := Lib.hid (blk_new w (.cells #[.int .i64 0, .string ⟨#[]⟩, .string ⟨#[]⟩, .bool false, .int .i64 0, .slice none 0 0, .slice none 0 0, .string ⟨#[]⟩, .string ⟨#[]⟩, .int .i64 0, .int .i64 0, .int .i64 0, .string ⟨#[]⟩, .int .i64 0, .int .i64 0] 44))
  have R0 := Lib.hid (h.step (alloc_below0 w (.cells #[.int .i64 0, .string ⟨#[]⟩, .string ⟨#[]⟩, .bool false, .int .i64 0, .slice none 0 0, .slice none 0 0, .string ⟨#[]⟩, .string ⟨#[]⟩, .int .i64 0, .int .i64 0, .int .i64 0, .string ⟨#[]⟩, .int .i64 0, .int .i64 0] 44)))
  clear h
  go_enter Try.func27, Try.ntmps27
  go_wp2_with fail
  generalize hwa : w.alloc (.cells #[.int .i64 0, .string ⟨#[]⟩, .string ⟨#[]⟩, .bool false, .int .i64 0, .slice none 0 0, .slice none 0 0, .string ⟨#[]⟩, .string ⟨#[]⟩, .int .i64 0, .int .i64 0, .int .i64 0, .string ⟨#[]⟩, .int .i64 0, .int .i64 0] 44) = wa at *
  clear hwa
  have RD := Lib.hid (R0.out.step (Below.refl _ _).drew)
  have BD := Lib.hid B0.out.drew
  have XD := Lib.hid (show wa.drew.heap[w.heap.size]? = some (.cells #[.int .i64 0, .string ⟨#[]⟩, .string ⟨#[]⟩, .bool false, .int .i64 0, .slice none 0 0, .slice none 0 0, .string ⟨#[]⟩, .string ⟨#[]⟩, .int .i64 0, .int .i64 0, .int .i64 0, .string ⟨#[]⟩, .int .i64 0, .int .i64 0] 44 (0, 0)) from X0.out)
  refine AnyBut.region (fun w' => RfB w' hb 1 1) 3 (by kernel_rfl) ?_
  generalize wa.drew = wd at *
  refine AnyBut.takeP [] (i := 0) (oi := ⟨some 5, _, _, _, _, _⟩) (v := ?va0) rfl (by kernel_rfl) (by kernel_rfl) (by kernel_rfl) (by kernel_rfl) (by kernel_rfl) (fun _ _ _ h => h) (Or.inl ⟨by rfl, ?hya0⟩) RD.out ?resta0
  case hya0 => (intro w hSw; have q0 := hSw.c0; have q1 := hSw.c1; go_simp; try (with_reducible rfl))
  simp only [Act.put, List.setIfInBounds_toArray, List.set_cons_zero, List.set_cons_succ]
  refine AnyBut.takeP [] (i := 2) (oi := ⟨some 3, _, _, _, _, _⟩) (v := ?va2) rfl (by kernel_rfl) (by kernel_rfl) (by kernel_rfl) (by kernel_rfl) (by kernel_rfl) (fun _ _ _ h => h) (Or.inl ⟨by rfl, ?hya2⟩) RD.out ?resta2
  case hya2 => (intro w hSw; have q0 := hSw.c0; have q1 := hSw.c1; go_simp; try (with_reducible rfl))
  simp only [Act.put, List.setIfInBounds_toArray, List.set_cons_zero, List.set_cons_succ]
  refine AnyBut.takeP [] (i := 1) (oi := ⟨some 6, _, _, _, _, _⟩) (v := .agg (recCells awD.sc (.slice none 0 0) (.slice none 0 0)).toArray) rfl (by kernel_rfl) (by kernel_rfl) (by kernel_rfl) (by kernel_rfl) (by kernel_rfl) (fun _ _ _ h => h) ?yba1 RD.out ?resta1
  case yba1 =>
    refine yieldsIf_build_to (by rfl) 44 _ rfl _ ?_
    exact (congrArg (Program.built Try.prog 44) (by rfl)).trans (built_aw)
  simp only [Act.put, List.setIfInBounds_toArray, List.set_cons_zero, List.set_cons_succ]
  refine AnyBut.one (i := 3) (o := ⟨none, _, _, _, _, _⟩) (by kernel_rfl) rfl (fun K hK => ?_)
  rw [if_pos (by rfl)]
  refine wp_store_to 44 (.tmp 4) (.tmp 6) rfl w.heap.size 0 (recCells awD.sc (.slice none 0 0) (.slice none 0 0)) rfl rfl ?_ recInfoS aw_one ?_
  · exact blk_there XD.out 15 (Nat.le_refl _)
  intro W2 hW2
  have X2 := Lib.hid (show W2.heap[w.heap.size]? = some (recObj awD.sc (.slice none 0 0) (.slice none 0 0)) by rw [hW2]; exact list_laid (recCells awD.sc (.slice none 0 0) (.slice none 0 0)) XD.out rfl)
  have B2 := Lib.hid (show Below w.heap.size w W2 by rw [hW2]; exact below_setCells (Nat.le_refl _) _ 0 _ BD.out)
  clear hW2
  refine hK.out _ _ (fun h => absurd rfl h) ?_
  clear hK K
  try simp only [Act.put]
  refine AnyBut.done (by kernel_rfl) ?_ _
  try simp only [Act.put]
  go_wp2
  refine bodyPost_ret (v := .tuple #[.slice none 0 0, .agg (recCells awD.sc (.slice none 0 0) (.slice none 0 0)).toArray]) (results_tmpC rfl _ _ w.heap.size (recCells awD.sc (.slice none 0 0) (.slice none 0 0)) _ _ rfl rfl (rec_range X2.out) Try.underlying44 rfl recInfoS) rfl ?_
  exact ⟨none, 0, 0, none, 0, 0, none, 0, 0, [], rfl, RecsV.none _ _, ⟨_, _, rfl, SV.nil _ _, SV.nil _ _⟩, Out.none, Out.none, by decide, by decide, Kept.of_below B2.out⟩

open Go.RowKit

theorem settle_begin0 (page os og : Int) (f : Fn) (a c : Array Value) : settleI (beginI page os og 0 (.func f a c)) = { beginI page os og 0 (.func f a c) with st := 2 } := rfl
theorem settle_beginN (page os og : Int) (n : Nat) (hn : 0 < n) (f : Fn) (a c : Array Value) : settleI (beginI page os og n (.func f a c)) = beginI page os og n (.func f a c) := by
  have b1 : (beginI page os og n (.func f a c)).busyB = true := decide_eq_true hn
  show settleGo 8 _ = _
  rw [settleGo, if_pos b1]
def limW : LimN := ⟨9, 3, 1, 4, 4, 99⟩
theorem limW_ok : limW.ok := by constructor <;> decide
theorem aw_alloc : allocM 9 99 psB = (2, 1, 0) := by decide
def awPs : List Pt := psB ++ [⟨2, 1, awD, true⟩]
theorem aw_put : putM 9 99 psB awD = awPs := by unfold putM; rw [aw_alloc]; rfl
theorem aw_swap : swapB (pgs1 3) 0 (1, 1) = true := by decide
def awL : List Pg := [some (2, 1), none, none]
theorem aw_swapL : swapL (pgs1 3) 0 (1, 1) (2, 1) = awL := by decide
theorem aw_head : headT (pgs1 3) 0 = (1, 1) ∧ codeT (pgs1 3) 0 = 0 := by decide
theorem aw_chain : chM 9 awPs awL 0 = ([(awD.sc, (2, 1)), (baseD.sc, (1, 1))], 0) := rfl
def awI (hb : Nat) : Ins := { beginI 0 1 1 0 (.func (.func 27) #[] #[.pointer (some ⟨hb, 0, none⟩)]) with st := 2 }
def awJ (hb : Nat) (rc : Nat → Nat → Value) : Ins := { fillI (madeI (awI hb) rc) (2, 1) with st := 6 }
theorem aw_set (hb : Nat) (rc : Nat → Nat → Value) : settleI (fillI (madeI (awI hb) rc) (2, 1)) = awJ hb rc := rfl
theorem aw_end (hb : Nat) (rc : Nat → Nat → Value) : settleI (succI (swapI (awJ hb rc))) = succI (swapI (awJ hb rc)) := rfl
set_option maxRecDepth 100000 in
set_option maxHeartbeats 4000000 in
theorem awakeN (w : World) : Calls Try.prog 8 #[] w fun ev w' => ev = .returned (.bool true) ∧ Below w.heap.size w w' := by
  have fn := fun w => mem_new limW limW_ok w
  unfold limV limW LimN.z at fn
  go_enter Try.func8, Try.ntmps8
  go_wp2_with fail
  refine (fn _).mono ?_
  rintro ev w1 ⟨m, S, rfl, hM, hF, hs⟩
  have M1 := Lib.hid (show MemAt w1 m S limW 0 psB (pgs1 3) (Ck.new limW.t limW.c) from hM)
  have F1 := Lib.hid hF
  have B1 := Lib.hid hs
  clear hM hF hs fn
  go_wp2_with fail
  refine (nHead_any _ m S limW 0 _ _ _ 0 M1.out).mono ?_
  rw [aw_head.1, aw_head.2]
  rintro ev w2 ⟨v2, rfl, he, hM, hk⟩
  obtain rfl := he.nil rfl
  have M2 := Lib.hid hM
  have F2 := Lib.hid (show ∀ k, MS m S k → w.heap.size ≤ k from F1.out)
  have B2 := Lib.hid (B1.out.trans (hk.below F2.out B1.out.size))
  clear he hM hk
  unfold refV
  have b3 := alloc_below0 w2 (.cells #[.int .i64 1, .int .i64 1] 34)
  have M3 := Lib.hid (M2.out.low b3)
  have B3 := Lib.hid (B2.out.trans (b3.mono B2.out.size))
  have R3 := Lib.hid (RfB.mk (blk_new w2 (.cells #[.int .i64 1, .int .i64 1] 34)))
  have x0 := R3.out.c0
  have x1 := R3.out.c1
  have hmf := run_makeFunc
  clear b3
  have fb := fun w => begin_y 0 1 1 0 (.func 27) #[] #[.pointer (some ⟨w2.heap.size, 0, none⟩)] (by decide) w
  rw [settle_begin0] at fb
  unfold jobV at fb
  go_wp2_with fail
  generalize hwa : w2.alloc (.cells #[.int .i64 1, .int .i64 1] 34) = wa at *
  generalize hhb : w2.heap.size = hb at *
  refine (fb _).mono ?_
  rintro ev w4 ⟨b, rfl, hI, hlb, hs⟩
  have I4 := Lib.hid (show InsAt w4 b (awI hb) from hI)
  have M4 := Lib.hid (M3.out.low hs)
  have B4 := Lib.hid (B3.out.trans (hs.mono B3.out.size))
  have R4 := Lib.hid (R3.out.step hs)
  have HB4 := Lib.hid (show ¬ MS m S b from fun h => by have := M3.out.lt b h; omega)
  have NB := Lib.hid (show w.heap.size ≤ b ∧ hb ≠ b ∧ ¬ MS m S hb from ⟨by have := B3.out.size; omega, (by have := R3.out.lt; omega), fun h => by rw [← hhb] at h; have := M2.out.lt _ h; omega⟩)
  clear hI hlb hs fb x0 x1 hmf hwa hhb
  go_wp2_with fail
  refine (iStep2a 27 hF_aw #[.pointer (some ⟨hb, 0, none⟩)] _ b (awI hb) m S limW _ _ _ _ I4.out M4.out HB4.out (.inr ⟨_, _, _, rfl⟩) (.inl rfl) (fun _ => False) (fun x => MS m S x ∨ x = b) [] awD rfl rfl rfl (by show 0 ≤ 4; decide) (by show 0 ≤ 4; decide) rfl rfl rfl
    (fun x hx => hx.elim (M4.out.lt x) (fun e => e ▸ I4.out.lt)) (.inr rfl) (fun _ h => .inl h) (fun _ h => h.elim) id (fun _ _ h => h) (fun w1' pv hk ho => awake1_any hb pv w1' (R4.out.keep hk NB.out.2.1))).mono ?_
  rintro ev w5 ⟨S', rc', j, rfl, hI, hM, hk, hS, hR, hj⟩
  have hj2 : j = fillI (madeI (awI hb) rc') (2, 1) := by
    rcases hj with ⟨-, h⟩ | ⟨h, -⟩
    · rw [h]; show fillI _ (((allocM 9 99 psB).1 : Int), ((allocM 9 99 psB).2.1 : Int)) = _; rw [aw_alloc]; rfl
    · exact absurd (show (allocM 9 99 psB).2.2 = 0 by rw [aw_alloc]) h
  subst hj2
  rw [aw_set] at hI ⊢
  have I5 := Lib.hid hI
  have M5 := Lib.hid (show MemAt w5 m S' limW _ awPs (pgs1 3) _ from aw_put ▸ hM)
  have F5 := Lib.hid (show ∀ k, MS m S' k → w.heap.size ≤ k from fun k h => (hS k h).elim (F2.out k) (fun h => by have := B4.out.size; omega))
  have B5 := Lib.hid (B4.out.trans (hk.below (n := w.heap.size) (fun k h => h.elim (fun h => h.elim (F2.out k) (fun e => e ▸ NB.out.1)) (fun h => h.elim)) B4.out.size))
  have HB5 := Lib.hid (show ¬ MS m S' b from fun h => (hS b h).elim HB4.out (fun h => by have := I4.out.lt; omega))
  clear hI hM hk hS hR hj
  have e5 : (((awJ hb rc').st : Int) == 0) = false := rfl
  rw [e5]
  clear e5
  go_wp2_with fail
  refine (iStep6 _ b (awJ hb rc') m S' limW _ _ _ _ I5.out M5.out HB5.out (.inl rfl) (.inl rfl) rfl (by show 0 < 5; decide)).mono ?_
  rintro ev w6 ⟨S6, j, rfl, hI, hM, hk, hS, hj⟩
  have hj2 : j = succI (swapI (awJ hb rc')) := by
    rcases hj with ⟨-, h⟩ | ⟨h, -⟩
    · exact h
    · have h' : swapB (pgs1 3) 0 (1, 1) = false := h
      rw [aw_swap] at h'
      cases h'
  subst hj2
  rw [aw_end] at hI ⊢
  have I6 := Lib.hid hI
  have M6 := Lib.hid (show MemAt w6 m S6 limW _ awPs awL _ from aw_swapL ▸ hM)
  have B6 := Lib.hid (B5.out.trans (hk.below (n := w.heap.size) (fun k h => h.elim (fun h => h.elim (F5.out k) (fun e => e ▸ NB.out.1)) (fun h => h.elim)) B5.out.size))
  clear hI hM hk hS hj
  have e6 : (((succI (swapI (awJ hb rc'))).st : Int) == 0) = true := rfl
  rw [e6]
  clear e6
  go_wp2_with fail
  refine (done_any _ b _ I6.out rfl).mono ?_
  rintro ev w7 ⟨rfl, hs⟩
  have I7 := Lib.hid (I6.out.step hs)
  have M7 := Lib.hid (M6.out.low hs)
  have B7 := Lib.hid (B6.out.trans (hs.mono B6.out.size))
  clear hs
  have e7 : (succI (swapI (awJ hb rc'))).dn = true ∧ (succI (swapI (awJ hb rc'))).er = .nilIface := ⟨rfl, rfl⟩
  rw [e7.1, e7.2]
  clear e7
  go_wp2_with fail
  refine (chain_any _ m S6 limW _ _ _ _ 0 M7.out).mono ?_
  rw [show chM limW.s awPs awL 0 = ([(awD.sc, (2, 1)), (baseD.sc, (1, 1))], 0) from aw_chain]
  rintro ev w8 ⟨v1, v2, v3, ds, rfl, hm, o1, o2, he, hs⟩
  have hds : ds.length = 2 := by have := congrArg List.length hm; simpa using this
  obtain ⟨a1, c1, rfl, -, -⟩ := o1.sv.lenform
  have I8 := Lib.hid (I7.out.step hs)
  have B8 := Lib.hid (B7.out.trans (hs.mono B7.out.size))
  rw [hds]
  clear hs hm o1 o2 he hds
  go_wp2_with fail
  refine (ihead_any _ b _ I8.out rfl (by show 0 < 1; decide) (by show 1 ≤ 5; decide)).mono ?_
  rintro ev w9 ⟨rfl, hs⟩
  have B9 := Lib.hid (B8.out.trans (hs.mono B8.out.size))
  have e9 : (succI (swapI (awJ hb rc'))).rf ((succI (swapI (awJ hb rc'))).pt - 1) = (2, 1) := rfl
  rw [e9]
  unfold refV
  clear hs e9
  go_wp2
  go_ret
  exact ⟨rfl, B9.out⟩

open Go.RowKit

set_option maxRecDepth 100000 in
set_option maxHeartbeats 4000000 in
theorem nCount_any (w : World) (m : MB) (S : Nat → Prop) (l : LimN) (k : Int) (ps : List Pt) (L : List Pg) (c : Ck) (h : MemAt w m S l k ps L c) :
    Calls Try.prog 18 #[.pointer (some ⟨m.mb, 0, none⟩)] w fun ev w' => ev = .returned (.int .i64 k) ∧ w = w' := by
  have x0 := h.cN
  go_enter Try.func18, Try.ntmps18
  go_wp2
  go_ret
  exact ⟨rfl, rfl⟩
set_option maxRecDepth 100000 in
set_option maxHeartbeats 4000000 in
theorem lawNobody (news : Int) (w : World) : Calls Try.prog 4 #[.int .i64 news] w fun ev w' => ev = .returned (.bool true) ∧ Below w.heap.size w w' := by
  have fn := fun w => mem_new limW limW_ok w
  unfold limV limW LimN.z at fn
  go_enter Try.func4, Try.ntmps4
  go_wp2_with fail
  refine (fn _).mono ?_
  rintro ev w1 ⟨m, S, rfl, hM, hF, hs⟩
  have M1 := Lib.hid (show MemAt w1 m S limW 0 psB (pgs1 3) (Ck.new limW.t limW.c) from hM)
  have B1 := Lib.hid hs
  clear hM hF hs fn
  go_wp2_with fail
  refine (done_nil _).mono ?_
  rintro ev w2 ⟨rfl, hs⟩
  have M2 := Lib.hid (M1.out.low hs)
  have B2 := Lib.hid (B1.out.trans (hs.mono B1.out.size))
  clear hs
  have fb := fun w => begin_n 0 0 0 news w
  unfold jobV at fb
  unfold errArg
  go_wp2_with fail
  refine (fb _).mono ?_
  rintro ev w3 ⟨b, rfl, hI, hlb, hs⟩
  have I3 := Lib.hid hI
  have M3 := Lib.hid (M2.out.low hs)
  have B3 := Lib.hid (B2.out.trans (hs.mono B2.out.size))
  clear hI hlb hs fb
  go_wp2_with fail
  refine (done_any _ b _ I3.out rfl).mono ?_
  rintro ev w4 ⟨rfl, hs⟩
  have I4 := Lib.hid (I3.out.step hs)
  have M4 := Lib.hid (M3.out.low hs)
  have B4 := Lib.hid (B3.out.trans (hs.mono B3.out.size))
  clear hs
  have e4 : (Ins.zero errArg).dn = false ∧ (Ins.zero errArg).er = .iface 60 (.int .i64 1) := ⟨rfl, rfl⟩
  rw [e4.1, e4.2]
  clear e4
  go_wp2_with fail
  refine (iStepNil _ _).mono ?_
  rintro ev w5 ⟨rfl, rfl⟩
  go_wp2_with fail
  refine (nOver_nil _).mono ?_
  rintro ev w6 ⟨rfl, rfl⟩
  go_wp2_with fail
  refine (fIs_code 1 1 _).mono ?_
  rintro ev w7 ⟨rfl, hs⟩
  have e1 : ((1 : Int) == 1) = true := rfl
  rw [e1]
  have I7 := Lib.hid (I4.out.step hs)
  have M7 := Lib.hid (M4.out.low hs)
  have B7 := Lib.hid (B4.out.trans (hs.mono B4.out.size))
  clear hs
  go_wp2_with fail
  refine (iStep0 _ b _ _ I7.out rfl).mono ?_
  rintro ev w8 ⟨rfl, rfl⟩
  go_wp2_with fail
  refine (nOver_any _ b _ I7.out).mono ?_
  rintro ev w9 ⟨rfl, rfl⟩
  have e9 : (((Ins.zero errArg).st : Int) == 0) = true := rfl
  rw [e9]
  clear e9
  go_wp2_with fail
  refine (fIs_code 1 1 _).mono ?_
  rintro ev w10 ⟨rfl, hs⟩
  rw [e1]
  have M10 := Lib.hid (M7.out.low hs)
  have B10 := Lib.hid (B7.out.trans (hs.mono B7.out.size))
  clear hs e1
  go_wp2_with fail
  refine (nCount_any _ m S limW 0 _ _ _ M10.out).mono ?_
  rintro ev w11 ⟨rfl, rfl⟩
  go_wp2_with fail
  refine (ihead_nil _).mono ?_
  rintro ev w12 ⟨rfl, hs⟩
  have B12 := Lib.hid (B10.out.trans (hs.mono B10.out.size))
  clear hs
  unfold refV
  go_wp2_with fail
  refine (ipages_nil _).mono ?_
  rintro ev w13 ⟨rfl, hs⟩
  have B13 := Lib.hid (B12.out.trans (hs.mono B12.out.size))
  clear hs
  go_wp2_with fail
  refine (awakeN _).mono ?_
  rintro ev w14 ⟨rfl, hs⟩
  have B14 := Lib.hid (B13.out.trans (hs.mono B13.out.size))
  clear hs
  go_wp2
  go_ret
  exact ⟨rfl, B14.out⟩
end Go.Proofs.Ytabchlgbdlgacaa
