/- An installer of layer 12's laws, let run to its end. -/
import Derived.Test.YtaiaaljahnackaaNsAwake
import Derived.Test.YtaiaaljahnackaaNsAnyB
namespace Go.Proofs.Ytaiaaljahnackaa
open Go.RowKit

theorem settle_begin0 (page os og : Int) (f : Fn) (a c : Array Value) : settleI (beginI page os og 0 (.func f a c)) = { beginI page os og 0 (.func f a c) with st := 2 } := rfl
theorem settle_beginN (page os og : Int) (n : Nat) (hn : 0 < n) (f : Fn) (a c : Array Value) : settleI (beginI page os og n (.func f a c)) = beginI page os og n (.func f a c) := by
  have b1 : (beginI page os og n (.func f a c)).busyB = true := decide_eq_true hn
  show settleGo 8 _ = _
  rw [settleGo, if_pos b1]
def limW : LimN := ⟨9, 3, 1, 4, 4, 99⟩
theorem limW_ok : limW.ok := by constructor <;> decide
theorem aw_alloc : allocM 9 99 psB = (2, 1, 0) := by decide
def awPs : List Pt := psB ++ [⟨2, 1, awD, true⟩]
theorem aw_put : putM 9 99 psB awD = awPs := by unfold putM; rw [aw_alloc]; rfl
theorem aw_swap : swapB (pgs1 3) 0 (1, 1) = true := by decide
def awL : List Pg := [some (2, 1), none, none]
theorem aw_swapL : swapL (pgs1 3) 0 (1, 1) (2, 1) = awL := by decide
theorem aw_head : headT (pgs1 3) 0 = (1, 1) ∧ codeT (pgs1 3) 0 = 0 := by decide
theorem aw_chain : chM 9 awPs awL 0 = ([(awD.sc, (2, 1)), (baseD.sc, (1, 1))], 0) := rfl
def awI (hb : Nat) : Ins := { beginI 0 1 1 0 (.func (.func 23) #[] #[.pointer (some ⟨hb, 0, none⟩)]) with st := 2 }
def awJ (hb : Nat) (rc : Nat → Nat → Value) : Ins := { fillI (madeI (awI hb) rc) (2, 1) with st := 6 }
theorem aw_set (hb : Nat) (rc : Nat → Nat → Value) : settleI (fillI (madeI (awI hb) rc) (2, 1)) = awJ hb rc := rfl
theorem aw_end (hb : Nat) (rc : Nat → Nat → Value) : settleI (succI (swapI (awJ hb rc))) = succI (swapI (awJ hb rc)) := rfl
set_option maxRecDepth 100000 in
set_option maxHeartbeats 4000000 in
theorem awakeN (w : World) : Calls Try.prog 7 #[] w fun ev w' => ev = .returned (.bool true) ∧ Below w.heap.size w w' := by
  have fn := fun w => mem_new limW limW_ok w
  unfold limV limW LimN.z at fn
  go_enter Try.func7, Try.ntmps7
  go_wp2_with fail
  refine (fn _).mono ?_
  rintro ev w1 ⟨m, S, rfl, hM, hF, hs⟩
  have M1 := Lib.hid (show MemAt w1 m S limW 0 psB (pgs1 3) (Ck.new limW.t limW.c) from hM)
  have F1 := Lib.hid hF
  have B1 := Lib.hid hs
  clear hM hF hs fn
  go_wp2_with fail
  refine (nHead_any _ m S limW 0 _ _ _ 0 M1.out).mono ?_
  rw [aw_head.1, aw_head.2]
  rintro ev w2 ⟨v2, rfl, he, hM, hk⟩
  obtain rfl := he.nil rfl
  have M2 := Lib.hid hM
  have F2 := Lib.hid (show ∀ k, MS m S k → w.heap.size ≤ k from F1.out)
  have B2 := Lib.hid (B1.out.trans (hk.below F2.out B1.out.size))
  clear he hM hk
  unfold refV
  have b3 := alloc_below0 w2 (.cells #[.int .i64 1, .int .i64 1] 34)
  have M3 := Lib.hid (M2.out.low b3)
  have B3 := Lib.hid (B2.out.trans (b3.mono B2.out.size))
  have R3 := Lib.hid (RfB.mk (blk_new w2 (.cells #[.int .i64 1, .int .i64 1] 34)))
  have x0 := R3.out.c0
  have x1 := R3.out.c1
  have hmf := run_makeFunc
  clear b3
  have fb := fun w => begin_y 0 1 1 0 (.func 23) #[] #[.pointer (some ⟨w2.heap.size, 0, none⟩)] (by decide) w
  rw [settle_begin0] at fb
  unfold jobV at fb
  go_wp2_with fail
  generalize hwa : w2.alloc (.cells #[.int .i64 1, .int .i64 1] 34) = wa at *
  generalize hhb : w2.heap.size = hb at *
  refine (fb _).mono ?_
  rintro ev w4 ⟨b, rfl, hI, hlb, hs⟩
  have I4 := Lib.hid (show InsAt w4 b (awI hb) from hI)
  have M4 := Lib.hid (M3.out.low hs)
  have B4 := Lib.hid (B3.out.trans (hs.mono B3.out.size))
  have R4 := Lib.hid (R3.out.step hs)
  have HB4 := Lib.hid (show ¬ MS m S b from fun h => by have := M3.out.lt b h; omega)
  have NB := Lib.hid (show w.heap.size ≤ b ∧ hb ≠ b ∧ ¬ MS m S hb from ⟨by have := B3.out.size; omega, (by have := R3.out.lt; omega), fun h => by rw [← hhb] at h; have := M2.out.lt _ h; omega⟩)
  clear hI hlb hs fb x0 x1 hmf hwa hhb
  go_wp2_with fail
  refine (iStep2a 23 hF_aw #[.pointer (some ⟨hb, 0, none⟩)] _ b (awI hb) m S limW _ _ _ _ I4.out M4.out HB4.out (.inr ⟨_, _, _, rfl⟩) (.inl rfl) (fun _ => False) (fun _ => False) (fun x => MS m S x ∨ x = b) (fun h => h) (fun _ _ h => h) [] awD rfl rfl rfl (by show 0 ≤ 4; decide) (by show 0 ≤ 4; decide) rfl rfl rfl
    (fun x hx => hx.elim (M4.out.lt x) (fun e => e ▸ I4.out.lt)) (.inr rfl) (fun _ h => .inl h) (fun _ h => h.elim) id (fun _ _ h => h) (fun w1' pv hk ho => awake1_any _ hb pv w1' (R4.out.keep hk NB.out.2.1))).mono ?_
  rintro ev w5 ⟨S', rc', j, rfl, hI, hM, hk, hS, hR, -, hj⟩
  have hj2 : j = fillI (madeI (awI hb) rc') (2, 1) := by
    rcases hj with ⟨-, h⟩ | ⟨h, -⟩
    · rw [h]; show fillI _ (((allocM 9 99 psB).1 : Int), ((allocM 9 99 psB).2.1 : Int)) = _; rw [aw_alloc]; rfl
    · exact absurd (show (allocM 9 99 psB).2.2 = 0 by rw [aw_alloc]) h
  subst hj2
  rw [aw_set] at hI ⊢
  have I5 := Lib.hid hI
  have M5 := Lib.hid (show MemAt w5 m S' limW _ awPs (pgs1 3) _ from aw_put ▸ hM)
  have F5 := Lib.hid (show ∀ k, MS m S' k → w.heap.size ≤ k from fun k h => (hS k h).elim (F2.out k) (fun h => by have := B4.out.size; omega))
  have B5 := Lib.hid (B4.out.trans (hk.below (n := w.heap.size) (fun k h => h.elim (fun h => h.elim (F2.out k) (fun e => e ▸ NB.out.1)) (fun h => h.elim)) B4.out.size))
  have HB5 := Lib.hid (show ¬ MS m S' b from fun h => (hS b h).elim HB4.out (fun h => by have := I4.out.lt; omega))
  clear hI hM hk hS hR hj
  have e5 : (((awJ hb rc').st : Int) == 0) = false := rfl
  rw [e5]
  clear e5
  go_wp2_with fail
  refine (iStep6 _ b (awJ hb rc') m S' limW _ _ _ _ I5.out M5.out HB5.out (.inl rfl) (.inl rfl) rfl (by show 0 < 5; decide)).mono ?_
  rintro ev w6 ⟨S6, j, rfl, hI, hM, hk, hS, hj⟩
  have hj2 : j = succI (swapI (awJ hb rc')) := by
    rcases hj with ⟨-, h⟩ | ⟨h, -⟩
    · exact h
    · have h' : swapB (pgs1 3) 0 (1, 1) = false := h
      rw [aw_swap] at h'
      cases h'
  subst hj2
  rw [aw_end] at hI ⊢
  have I6 := Lib.hid hI
  have M6 := Lib.hid (show MemAt w6 m S6 limW _ awPs awL _ from aw_swapL ▸ hM)
  have B6 := Lib.hid (B5.out.trans (hk.below (n := w.heap.size) (fun k h => h.elim (fun h => h.elim (F5.out k) (fun e => e ▸ NB.out.1)) (fun h => h.elim)) B5.out.size))
  clear hI hM hk hS hj
  have e6 : (((succI (swapI (awJ hb rc'))).st : Int) == 0) = true := rfl
  rw [e6]
  clear e6
  go_wp2_with fail
  refine (done_any _ b _ I6.out rfl).mono ?_
  rintro ev w7 ⟨rfl, hs⟩
  have I7 := Lib.hid (I6.out.step hs)
  have M7 := Lib.hid (M6.out.low hs)
  have B7 := Lib.hid (B6.out.trans (hs.mono B6.out.size))
  clear hs
  have e7 : (succI (swapI (awJ hb rc'))).dn = true ∧ (succI (swapI (awJ hb rc'))).er = .nilIface := ⟨rfl, rfl⟩
  rw [e7.1, e7.2]
  clear e7
  go_wp2_with fail
  refine (chain_any _ m S6 limW _ _ _ _ 0 M7.out).mono ?_
  rw [show chM limW.s awPs awL 0 = ([(awD.sc, (2, 1)), (baseD.sc, (1, 1))], 0) from aw_chain]
  rintro ev w8 ⟨v1, v2, v3, ds, rfl, hm, o1, o2, he, hs⟩
  have hds : ds.length = 2 := by have := congrArg List.length hm; simpa using this
  obtain ⟨a1, c1, rfl, -, -⟩ := o1.sv.lenform
  have I8 := Lib.hid (I7.out.step hs)
  have B8 := Lib.hid (B7.out.trans (hs.mono B7.out.size))
  rw [hds]
  clear hs hm o1 o2 he hds
  go_wp2_with fail
  refine (ihead_any _ b _ I8.out rfl (by show 0 < 1; decide) (by show 1 ≤ 5; decide)).mono ?_
  rintro ev w9 ⟨rfl, hs⟩
  have B9 := Lib.hid (B8.out.trans (hs.mono B8.out.size))
  have e9 : (succI (swapI (awJ hb rc'))).rf ((succI (swapI (awJ hb rc'))).pt - 1) = (2, 1) := rfl
  rw [e9]
  unfold refV
  clear hs e9
  go_wp2
  go_ret
  exact ⟨rfl, B9.out⟩

open Go.RowKit

set_option maxRecDepth 100000 in
set_option maxHeartbeats 4000000 in
theorem nCount_any (w : World) (m : MB) (S : Nat → Prop) (l : LimN) (k : Int) (ps : List Pt) (L : List Pg) (c : Ck) (h : MemAt w m S l k ps L c) :
    Calls Try.prog 45 #[.pointer (some ⟨m.mb, 0, none⟩)] w fun ev w' => ev = .returned (.int .i64 k) ∧ w = w' := by
  have x0 := h.cN
  go_enter Try.func45, Try.ntmps45
  go_wp2
  go_ret
  exact ⟨rfl, rfl⟩
open Go.RowKit

/-- how many steps an installer has left, at most -/
def meas (i : Ins) : Nat := if i.st = 0 then 0 else if i.st = 1 then 34 + (i.news - i.tk) else if i.st = 2 then 33 else if i.st = 3 then 27 + (i.news - i.pt) else if i.st = 4 then 22 + (i.news - i.sw) else if i.st = 5 then 21 else if i.st = 6 then 20 else i.pt + i.tk
theorem meas0 {i : Ins} (h : i.st = 0) : meas i = 0 := by unfold meas; rw [if_pos h]
theorem meas1 {i : Ins} (h : i.st = 1) : meas i = 34 + (i.news - i.tk) := by unfold meas; rw [h]; rfl
theorem meas2 {i : Ins} (h : i.st = 2) : meas i = 33 := by unfold meas; rw [h]; rfl
theorem meas3 {i : Ins} (h : i.st = 3) : meas i = 27 + (i.news - i.pt) := by unfold meas; rw [h]; rfl
theorem meas4 {i : Ins} (h : i.st = 4) : meas i = 22 + (i.news - i.sw) := by unfold meas; rw [h]; rfl
theorem meas5 {i : Ins} (h : i.st = 5) : meas i = 21 := by unfold meas; rw [h]; rfl
theorem meas6 {i : Ins} (h : i.st = 6) : meas i = 20 := by unfold meas; rw [h]; rfl
theorem meas7 {i : Ins} (h : i.st = 7) : meas i = i.pt + i.tk := by unfold meas; rw [h]; rfl
theorem meas8 {i : Ins} (h : i.st = 8) : meas i = i.pt + i.tk := by unfold meas; rw [h]; rfl
theorem meas_back (j : Ins) : meas (backI j) ≤ j.pt + j.tk := by
  unfold backI
  split
  · rw [meas7 rfl]; exact Nat.le_refl _
  · split
    · rw [meas8 rfl]; exact Nat.le_refl _
    · rw [meas0 rfl]; exact Nat.zero_le _
theorem meas_und {i j : Ins} (h : Und i j) : meas (settleI j) ≤ i.pt + i.tk := by
  obtain ⟨v, -, rfl⟩ := h
  rw [settle_back _ (.inl rfl)]
  exact meas_back _
theorem meas_le {i : Ins} (h : Shape i) : meas i ≤ 38 := by
  obtain ⟨h1, h2, h3, h4, -, -⟩ := h
  unfold meas
  repeat' split
  all_goals omega
theorem meas_lt {l : LimN} {d : JbD} {ds : List RecD} {hd : RecD} {i j : Ins} {ps ps' : List Pt} {L L' : List Pg} (h : AStep l d ds hd i ps L j ps' L') (hS : Shape i) (hf : i.st = 1 → i.hasF = true) : meas (settleI j) < meas i := by
  obtain ⟨hn4, ht4, hp5, hw4, -, hsh⟩ := hS
  rcases h with ⟨hs, -, -, ⟨-, rfl⟩ | ⟨-, hu⟩⟩ | ⟨hs, -, -, rc, ⟨-, rfl⟩ | ⟨-, hu⟩⟩ | ⟨hs | hs, -, -, ⟨-, rfl⟩ | ⟨-, hu⟩⟩ | ⟨hs, -, -, ⟨-, rfl⟩ | ⟨-, hu⟩⟩ | ⟨hs, -, -, ⟨-, rfl⟩ | ⟨-, hu⟩⟩ | ⟨hs, -, -, rfl⟩ | ⟨hs, -, -, rfl⟩
  · -- take
    obtain ⟨g1, -⟩ : i.tk < i.news ∧ i.pt = 0 ∧ i.sw = 0 ∧ i.dn = false := by
      rcases hsh with g | g | g | g | g | g | g | g | g <;> first | (have := g.1; omega) | exact g.2
    obtain ⟨s, e, q | q⟩ := settle_take i (takeN L : Int) hs g1 (hf hs)
    · rw [e, meas1 hs, meas1 q.1]; show 34 + (i.news - (i.tk + 1)) < _; omega
    · rw [e, meas1 hs, meas2 q.1]; omega
  · have := meas_und hu; rw [meas1 hs]; omega
  · -- make
    obtain ⟨g1, g2, g3, -⟩ : i.tk = i.news ∧ i.pt = 0 ∧ i.sw = 0 ∧ i.dn = false := by
      rcases hsh with g | g | g | g | g | g | g | g | g <;> first | (have := g.1; omega) | exact g.2
    by_cases hz : i.news = 0
    · have hst : (madeI i rc).st = 5 := if_pos hz
      rw [settle_fill5 (madeI i rc) _ hst (by show i.pt = i.news; omega), meas2 hs, meas6 rfl]; omega
    · have hst : (madeI i rc).st = 3 := if_neg hz
      obtain ⟨s, e, q | q⟩ := settle_fill3 (madeI i rc) (((allocM l.s l.c ps).1 : Int), ((allocM l.s l.c ps).2.1 : Int)) hst (by show i.pt < i.news; omega) g3
      · rw [e, meas2 hs, meas3 q.1]; show 27 + (i.news - (i.pt + 1)) < _; omega
      · rw [e, meas2 hs, meas4 q.1]; show 22 + (i.news - i.sw) < _; omega
  · have h1 : meas (settleI j) ≤ i.pt + i.tk := meas_und hu
    rw [meas2 hs]; omega
  · -- fill a base
    obtain ⟨-, -, g2, g3, -⟩ : i.fn = .nilFunc ∧ i.tk = i.news ∧ i.pt < i.news ∧ i.sw = 0 ∧ i.dn = false := by
      rcases hsh with g | g | g | g | g | g | g | g | g <;> first | (have := g.1; omega) | exact g.2
    obtain ⟨s, e, q | q⟩ := settle_fill3 i (((allocM l.s l.c ps).1 : Int), ((allocM l.s l.c ps).2.1 : Int)) hs g2 g3
    · rw [e, meas3 hs, meas3 q.1]; show 27 + (i.news - (i.pt + 1)) < _; omega
    · rw [e, meas3 hs, meas4 q.1]; show 22 + (i.news - i.sw) < _; omega
  · have := meas_und hu; rw [meas3 hs]; omega
  · -- fill the head
    obtain ⟨-, -, g2, -⟩ : i.fn = .nilFunc ∧ i.tk = i.news ∧ i.pt = i.news ∧ i.sw = i.news ∧ i.dn = false := by
      rcases hsh with g | g | g | g | g | g | g | g | g <;> first | (have := g.1; omega) | exact g.2
    rw [settle_fill5 i _ hs g2, meas5 hs, meas6 rfl]; omega
  · have := meas_und hu; rw [meas5 hs]; omega
  · -- swap a base
    obtain ⟨-, -, g2, g3, -⟩ : i.fn = .nilFunc ∧ i.tk = i.news ∧ i.pt = i.news ∧ i.sw < i.news ∧ i.dn = false := by
      rcases hsh with g | g | g | g | g | g | g | g | g <;> first | (have := g.1; omega) | exact g.2
    obtain ⟨s, e, q | q⟩ := settle_swap4 i hs g3 g2
    · rw [e, meas4 hs, meas4 q.1]; show 22 + (i.news - (i.sw + 1)) < _; omega
    · rw [e, meas4 hs, meas5 q.1]; omega
  · have := meas_und hu; rw [meas4 hs]; omega
  · rw [settle_succ, meas6 hs, meas0 rfl]; omega
  · have := meas_und hu; rw [meas6 hs]; omega
  · -- free
    obtain ⟨-, g1, -⟩ : i.fn = .nilFunc ∧ 0 < i.pt ∧ i.dn = false := by
      rcases hsh with g | g | g | g | g | g | g | g | g <;> first | (have := g.1; omega) | exact g.2
    rw [settle_back { i with pt := i.pt - 1 } (.inl hs), meas7 hs]
    have h1 := meas_back { i with pt := i.pt - 1 }
    have h2 : ({ i with pt := i.pt - 1 } : Ins).pt + ({ i with pt := i.pt - 1 } : Ins).tk = i.pt - 1 + i.tk := rfl
    omega
  · -- give
    obtain ⟨-, g1, g2, -⟩ : i.fn = .nilFunc ∧ i.pt = 0 ∧ 0 < i.tk ∧ i.dn = false := by
      rcases hsh with g | g | g | g | g | g | g | g | g <;> first | (have := g.1; omega) | exact g.2
    rw [settle_back { i with tk := i.tk - 1 } (.inr ⟨hs, g1⟩), meas8 hs]
    have h1 := meas_back { i with tk := i.tk - 1 }
    have h2 : ({ i with tk := i.tk - 1 } : Ins).pt + ({ i with tk := i.tk - 1 } : Ins).tk = i.pt + (i.tk - 1) := rfl
    omega
/-- steps, one after another -/
inductive Run (l : LimN) (d : JbD) (ds : List RecD) (hd : RecD) (i : Ins) (ps : List Pt) (L : List Pg) : Ins → List Pt → List Pg → Prop where
  | none : Run l d ds hd i ps L i ps L
  | more {i1 j : Ins} {ps1 ps2 : List Pt} {L1 L2 : List Pg} : Run l d ds hd i ps L i1 ps1 L1 → Shape i1 → i1.st ≠ 0 → (i1.st = 1 → i1.hasF = true) → AStep l d ds hd i1 ps1 L1 j ps2 L2 → Run l d ds hd i ps L (settleI j) ps2 L2
theorem Run.meas_le {l : LimN} {d : JbD} {ds : List RecD} {hd : RecD} {i i' : Ins} {ps ps' : List Pt} {L L' : List Pg} (h : Run l d ds hd i ps L i' ps' L') : meas i' ≤ meas i := by
  induction h with
  | none => exact Nat.le_refl _
  | more _ hs _ hf ha ih => have := meas_lt ha hs hf; omega
theorem AgI.hasf {w : World} {T : Nat → Prop} {b : Nat} {i : Ins} {d : JbD} {ds : List RecD} {hd : RecD} {jb cb cl : Nat} (h : AgI w T b i d ds hd jb cb cl) (hs : i.st = 1) : i.hasF = true := by unfold Ins.hasF; rw [(h.job (.inl hs)).1]
/-- where an installer and the memory are, so many steps on -/
def RunAt (w0 w : World) (T : Nat → Prop) (b : Nat) (i : Ins) (d : JbD) (bs : List RcL) (ds : List RecD) (hd : RecD) (jb cb cl : Nat) (m : MB) (S : Nat → Prop) (l : LimN) (ps : List Pt) (L : List Pg) (c : Ck) (i' : Ins) (wr : World) : Prop :=
  ∃ S' k' ps' L', Run l d ds hd i ps L i' ps' L' ∧ MemAt wr m S' l k' ps' L' c ∧ AgI wr (fun x => T x ∨ MS m S' x) b i' d ds hd jb cb cl ∧ AgW w0 wr (fun x => T x ∨ MS m S' x) b d bs ds hd cl m S' ∧ Kept (fun x => US m S b x ∨ x = cl) w wr ∧ (∀ x, MS m S' x → MS m S x ∨ w.heap.size ≤ x)
theorem AgI.subT {w : World} {T T' : Nat → Prop} {b : Nat} {i : Ins} {d : JbD} {ds : List RecD} {hd : RecD} {jb cb cl : Nat} (h : AgI w T b i d ds hd jb cb cl) (hT : ∀ x, T' x → T x) : AgI w T' b i d ds hd jb cb cl :=
  ⟨h.lies, h.sh, fun e => by obtain ⟨h1, h2, h3, h4, h5, h6⟩ := h.job e; exact ⟨h1, h2, h3, h4, fun q => h5 (hT _ q), fun q => h6 (hT _ q)⟩, fun e q hq => (h.recs e q hq).grow (Kept.refl (fun _ => False) w) (fun _ q => q.elim) (fun x q => .inl (hT x q))⟩
theorem AgW.step {w0 w w' : World} {T : Nat → Prop} {b : Nat} {d : JbD} {bs : List RcL} {ds : List RecD} {hd : RecD} {cl : Nat} {m : MB} {S S' : Nat → Prop} {l : LimN} {k : Int} {ps : List Pt} {L : List Pg} {c : Ck} (h : AgW w0 w T b d bs ds hd cl m S) (hM : MemAt w' m S' l k ps L c) (hk : Kept (fun x => US m S b x ∨ x = cl) w w') (hS : ∀ x, MS m S' x → MS m S x ∨ w.heap.size ≤ x) (hc : IntAt w' cl) : AgW w0 w' (fun x => T x ∨ MS m S' x) b d bs ds hd cl m S' where
  jobR := h.jobR
  below := h.below.trans (hk.below (n := w0.heap.size) (fun x hx => hx.elim (fun hu => hu.elim (fun q => (h.tin x (h.tm x q)).1) (fun e => e ▸ (h.tin b h.tb).1)) (fun e => e ▸ (h.tin cl h.tc).1)) h.below.size)
  ctr := hc
  tin := fun x hx => hx.elim (fun q => ⟨(h.tin x q).1, Nat.lt_of_lt_of_le (h.tin x q).2 hk.size⟩) (fun q => ⟨(hS x q).elim (fun q => (h.tin x (h.tm x q)).1) (fun q => Nat.le_trans h.below.size q), hM.lt x q⟩)
  tm := fun _ q => .inr q
  tb := .inl h.tb
  tc := .inl h.tc
  nb := fun q => (hS b q).elim h.nb (fun q => by have := (h.tin b h.tb).2; omega)
  nc := fun q => (hS cl q).elim h.nc (fun q => by have := (h.tin cl h.tc).2; omega)
  ne := h.ne
theorem AgW.down {w0 w : World} {T : Nat → Prop} {b : Nat} {d : JbD} {bs : List RcL} {ds : List RecD} {hd : RecD} {cl : Nat} {m : MB} {S1 S' : Nat → Prop} (h : AgW w0 w (fun x => (T x ∨ MS m S1 x) ∨ MS m S' x) b d bs ds hd cl m S') (hb : T b) (hc : T cl) : AgW w0 w (fun x => T x ∨ MS m S' x) b d bs ds hd cl m S' :=
  ⟨h.jobR, h.below, h.ctr, fun x q => h.tin x (q.elim (fun q => .inl (.inl q)) .inr), fun x q => .inr q, .inl hb, .inl hc, h.nb, h.nc, h.ne⟩
theorem RunAt.more {w0 w wr w2 : World} {T : Nat → Prop} {b : Nat} {i i1 j : Ins} {d : JbD} {bs : List RcL} {ds : List RecD} {hd : RecD} {jb cb cl : Nat} {m : MB} {S S1 S' : Nat → Prop} {l : LimN} {k1 : Int} {ps ps1 ps' : List Pt} {L L1 L' : List Pg} {c : Ck} (hr : Run l d ds hd i ps L i1 ps1 L1) (hA : AgI wr (fun x => T x ∨ MS m S1 x) b i1 d ds hd jb cb cl) (hW : AgW w0 wr (fun x => T x ∨ MS m S1 x) b d bs ds hd cl m S1) (hk : Kept (fun x => US m S b x ∨ x = cl) w wr) (hS : ∀ x, MS m S1 x → MS m S x ∨ w.heap.size ≤ x) (h0 : i1.st ≠ 0)
    (hM' : MemAt w2 m S' l k1 ps' L' c) (ha : AStep l d ds hd i1 ps1 L1 j ps' L') (hA' : AgI w2 (fun x => (T x ∨ MS m S1 x) ∨ MS m S' x) b (settleI j) d ds hd jb cb cl) (hk' : Kept (fun x => US m S1 b x ∨ x = cl) wr w2) (hS' : ∀ x, MS m S' x → MS m S1 x ∨ wr.heap.size ≤ x) (hc' : IntAt w2 cl) :
    RunAt w0 w T b i d bs ds hd jb cb cl m S l ps L c (settleI j) w2 :=
  ⟨S', k1, ps', L', .more hr hA.sh h0 hA.hasf ha, hM', hA'.subT (fun x q => q.elim (fun q => .inl (.inl q)) .inr), (hW.step hM' hk' hS' hc').down (hW.tb.resolve_right hW.nb) (hW.tc.resolve_right hW.nc),
    kept_mix hk hk' (fun x q => q.elim (fun q => q.elim (fun q => (hS x q).imp (fun q => .inl (.inl q)) id) (fun e => .inl (.inl (.inr e)))) (fun e => .inl (.inr e))), fun x q => (hS' x q).elim (hS x) (fun q => .inr (Nat.le_trans hk.size q))⟩
/-- behind a run to the end -/
def RunsQ (w0 w : World) (T : Nat → Prop) (b : Nat) (i : Ins) (d : JbD) (bs : List RcL) (ds : List RecD) (hd : RecD) (jb cb cl : Nat) (m : MB) (S : Nat → Prop) (l : LimN) (ps : List Pt) (L : List Pg) (c : Ck) (ev : Ending) (w' : World) : Prop := ∃ (n : Int) (i' : Ins), ev = .returned (.tuple #[.int .i64 n, .bool true]) ∧ i'.st = 0 ∧ RunAt w0 w T b i d bs ds hd jb cb cl m S l ps L c i' w'
set_option maxRecDepth 100000 in
set_option maxHeartbeats 4000000 in
theorem runs_any (w0 w : World) (T : Nat → Prop) (b : Nat) (i : Ins) (d : JbD) (bs : List RcL) (ds : List RecD) (hd : RecD) (jb cb cl : Nat) (m : MB) (S : Nat → Prop) (l : LimN) (k : Int) (ps : List Pt) (L : List Pg) (c : Ck) (h : AgI w T b i d ds hd jb cb cl) (hW : AgW w0 w T b d bs ds hd cl m S) (hM : MemAt w m S l k ps L c) :
    Calls Try.prog 13 #[.pointer (some ⟨b, 0, none⟩), .pointer (some ⟨m.mb, 0, none⟩)] w (RunsQ w0 w T b i d bs ds hd jb cb cl m S l ps L c) := by
  have M0 := Lib.hid hM
  have ML := Lib.hid (meas_le h.sh)
  have R0 := Lib.hid (show RunAt w0 w T b i d bs ds hd jb cb cl m S l ps L c i w from ⟨S, k, ps, L, .none, hM, h.subT (fun x q => q.elim id (hW.tm x)), ⟨hW.jobR, hW.below, hW.ctr, fun x q => hW.tin x (q.elim id (hW.tm x)), fun x q => .inr q, .inl hW.tb, .inl hW.tc, hW.nb, hW.nc, hW.ne⟩, Kept.refl _ _, fun _ q => .inl q⟩)
  clear h hW hM
  go_enter Try.func13, Try.ntmps13
  go_wp2_with fail
  refine (nCount_any _ m S l k ps L c M0.out).mono ?_
  rintro ev w1 ⟨rfl, rfl⟩
  go_wp2_with fail
  go_loopg [9] 40 (fun g v9 wr => ∃ (q : Nat) (i1 : Ins), q + g = 40 ∧ v9 = .int .i64 (q : Int) ∧ q + meas i1 ≤ 38 ∧ RunAt w0 w T b i d bs ds hd jb cb cl m S l ps L c i1 wr)
  case atStart => exact ⟨0, i, by omega, rfl, by have := ML.out; omega, R0.out⟩
  case round =>
    obtain ⟨q, i1, hq, rfl, hm, S1, k1, ps1, L1, hr, hM, hA, hW, hk, hS⟩ := hrel
    have Q1 := Lib.hid (show q + gk = 40 ∧ q + meas i1 ≤ 38 from ⟨hq, hm⟩)
    have RR := Lib.hid hr
    have M1 := Lib.hid hM
    have A1 := Lib.hid hA
    have W1 := Lib.hid hW
    have K1 := Lib.hid hk
    have S1' := Lib.hid hS
    have i9 : IntKind.i64.wrap ((q : Int) + 1) = (q : Int) + 1 := Go.IntWalk.i64_in _ (by omega)
    have hq40 : (q : Int) < 40 := by omega
    clear hq hm hr hM hA hW hk hS
    go_wp2_with fail
    by_cases hs0 : i1.st = 0
    · have e0 : ((i1.st : Int) == 0) = true := by rw [hs0]; rfl
      refine (iStep0 _ b i1 _ A1.out.lies hs0).mono ?_
      rintro ev w2 ⟨rfl, rfl⟩
      have E0 := Lib.hid e0
      have H0 := Lib.hid hs0
      clear e0 hs0
      go_wp2_with fail
      refine (nCount_any _ m S1 l k1 ps1 L1 c M1.out).mono ?_
      rintro ev w3 ⟨rfl, rfl⟩
      go_wp2_with fail
      refine (nOver_any _ b i1 A1.out.lies).mono ?_
      rintro ev w4 ⟨rfl, rfl⟩
      rw [E0.out]
      go_wp2
      refine bodyPost_ret (results_tmp2 rfl _ _ _) rfl ?_
      exact ⟨_, i1, rfl, H0.out, S1, k1, ps1, L1, RR.out, M1.out, A1.out, W1.out, K1.out, S1'.out⟩
    · refine (ag_step w0 wr _ b i1 d bs ds hd jb cb cl m S1 l k1 ps1 L1 c A1.out W1.out M1.out hs0).mono ?_
      rintro ev w2 ⟨S2, j, ps2, L2, rfl, hM2, ha, hA2, hk2, hS2, hc2⟩
      have N2 := Lib.hid (RunAt.more RR.out A1.out W1.out K1.out S1'.out hs0 hM2 ha hA2 hk2 hS2 hc2)
      have M2 := Lib.hid hM2
      have A2 := Lib.hid hA2
      have ME := Lib.hid (meas_lt ha A1.out.sh A1.out.hasf)
      clear hM2 ha hA2 hk2 hS2 hc2 hs0
      by_cases hz : (settleI j).st = 0
      · have E0 := Lib.hid (show (((settleI j).st : Int) == 0) = true by rw [hz]; rfl)
        have H0 := Lib.hid hz
        clear hz
        rw [E0.out]
        go_wp2_with fail
        refine (nCount_any _ m S2 l _ ps2 L2 c M2.out).mono ?_
        rintro ev w3 ⟨rfl, rfl⟩
        go_wp2_with fail
        refine (nOver_any _ b _ A2.out.lies).mono ?_
        rintro ev w4 ⟨rfl, rfl⟩
        rw [E0.out]
        go_wp2
        refine bodyPost_ret (results_tmp2 rfl _ _ _) rfl ?_
        exact ⟨_, _, rfl, H0.out, N2.out⟩
      · have E0 := Lib.hid (show (((settleI j).st : Int) == 0) = false by rw [beq_eq_false_iff_ne]; omega)
        clear hz
        rw [E0.out]
        go_wp2_with fail
        go_roundg (gk - 1)
        case measure => have := Q1.out.1; omega
        case rel => exact ⟨q + 1, settleI j, by have := Q1.out.1; omega, by go_num, by have h1 := Q1.out.2; have h2 := ME.out; omega, N2.out⟩
end Go.Proofs.Ytaiaaljahnackaa
