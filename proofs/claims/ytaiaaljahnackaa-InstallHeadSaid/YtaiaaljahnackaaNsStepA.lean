/- Package install's Step, by contract, stage by stage. -/
import Derived.Test.YtaiaaljahnackaaNsPrep
namespace Go.Proofs.Ytaiaaljahnackaa
open Go.RowKit

/-- behind a step: an installer that was settled, a memory, and what is said of the installer ahead of settling -/
def StepP (w : World) (b : Nat) (m : MB) (S : Nat → Prop) (l : LimN) (k : Int) (ps' : List Pt) (L' : List Pg) (c : Ck) (X : Nat → Prop) (J : World → Ins → Prop) (ev : Ending) (w' : World) : Prop :=
  ∃ S' j, ev = .returned (.bool (((settleI j).st : Int) == 0)) ∧ InsAt w' b (settleI j) ∧ MemAt w' m S' l (inc k) ps' L' c ∧ Kept (fun x => US m S b x ∨ X x) w w' ∧ (∀ x, MS m S' x → MS m S x ∨ w.heap.size ≤ x) ∧ J w' j
theorem US.x {m : MB} {S X : Nat → Prop} {b : Nat} {w w' : World} (hk : Kept (US m S b) w w') : Kept (fun x => US m S b x ∨ X x) w w' := hk.wide fun _ _ h => .inl h
def NoX : Nat → Prop := fun _ => False
theorem undo_ok (i : Ins) (v : Value) (h : ErV v) : (undoI i v).st ≤ 8 ∧ FnOk (undoI i v).fn ∧ ErV (undoI i v).er := ⟨(by show 7 ≤ 8; decide), .inl rfl, h⟩
set_option maxRecDepth 100000 in
set_option maxHeartbeats 4000000 in
theorem iStep0 (w : World) (b : Nat) (i : Ins) (mv : Value) (hi : InsAt w b i) (hs : i.st = 0) : Calls Try.prog 12 #[.pointer (some ⟨b, 0, none⟩), mv] w fun ev w' => ev = .returned (.bool true) ∧ w = w' := by
  have I0 := Lib.hid hi
  have hov : ((i.st : Int) == 0) = true := by rw [hs]; rfl
  have ho := fun w' h => nOver_any w' b i h
  rw [hov] at ho
  clear hi hs hov
  go_enter Try.func12, Try.ntmps12
  go_wp2_with fail
  refine (ho _ I0.out).mono ?_
  rintro ev w1 ⟨rfl, rfl⟩
  go_wp2
  go_ret
  exact ⟨rfl, rfl⟩
set_option maxRecDepth 100000 in
set_option maxHeartbeats 4000000 in
theorem iStepNil (mv : Value) (w : World) : Calls Try.prog 12 #[.pointer none, mv] w fun ev w' => ev = .returned (.bool true) ∧ w = w' := by
  have ho := nOver_nil
  go_enter Try.func12, Try.ntmps12
  go_wp2_with fail
  refine (ho _).mono ?_
  rintro ev w1 ⟨rfl, rfl⟩
  go_wp2
  go_ret
  exact ⟨rfl, rfl⟩
set_option maxRecDepth 100000 in
set_option maxHeartbeats 4000000 in
theorem iStep1 (w : World) (b : Nat) (i : Ins) (m : MB) (S : Nat → Prop) (l : LimN) (k : Int) (ps : List Pt) (L : List Pg) (c : Ck) (hi : InsAt w b i) (h : MemAt w m S l k ps L c) (hb : ¬ MS m S b) (hf : FnOk i.fn) (he : ErV i.er) (hs : i.st = 1) (h4 : i.tk < 4) : Calls Try.prog 12 #[.pointer (some ⟨b, 0, none⟩), .pointer (some ⟨m.mb, 0, none⟩)] w (StepP w b m S l k ps (takeL L) c NoX fun w' j => (takeE L = 0 ∧ j = takeI i (takeN L : Int)) ∨ (takeE L ≠ 0 ∧ ∃ v, ErrF w' v (takeE L) ∧ j = undoI i v)) := by
  have I0 := Lib.hid hi
  have M0 := Lib.hid h
  have HB := Lib.hid hb
  have FE := Lib.hid (show FnOk i.fn ∧ ErV i.er from ⟨hf, he⟩)
  have x5 := hi.cSt
  have hov : ((i.st : Int) == 0) = false := by rw [hs]; rfl
  have ho := fun w' h => nOver_any w' b i h
  rw [hov] at ho
  have HS := Lib.hid hs
  rw [hs] at x5
  have H4 := Lib.hid h4
  have HBZ := Lib.hid hb
  clear h4
  clear hi h hb hf he hs hov
  go_enter Try.func12, Try.ntmps12
  go_wp2_with fail
  refine (ho _ I0.out).mono ?_
  rintro ev w1 ⟨rfl, rfl⟩
  go_wp2_with fail
  refine (iTake_any _ b i m S l k ps L c I0.out M0.out HB.out H4.out).mono ?_
  rintro ev w2 ⟨rfl, hM, hk, hcase⟩
  have M2 := Lib.hid hM
  have K2 := Lib.hid hk
  clear hM hk x5
  rcases hcase with ⟨h0, hI⟩ | ⟨h0, v, hE, hI⟩
  · have I2 := Lib.hid hI
    have HC := Lib.hid h0
    clear hI h0
    have JK := Lib.hid (show (takeI i (takeN L : Int)).st ≤ 8 ∧ FnOk (takeI i (takeN L : Int)).fn ∧ ErV (takeI i (takeN L : Int)).er from ⟨(by show i.st ≤ 8; have := HS.out; omega), FE.out.1, FE.out.2⟩)
    go_wp2_with fail
    refine (settle_any _ b _ I2.out JK.out.1 JK.out.2.1 JK.out.2.2).mono ?_
    rintro ev wz ⟨rfl, hI, hk⟩
    have IZ := Lib.hid hI
    have MZ := Lib.hid (M2.out.off1 hk HBZ.out)
    have KZ := Lib.hid (K2.out.trans (US.one (m := m) (S := S) hk))
    have KO := Lib.hid hk
    clear hI hk
    go_wp2_with fail
    refine (nOver_any _ b _ IZ.out).mono ?_
    rintro ev wy ⟨rfl, rfl⟩
    go_wp2
    go_ret
    exact ⟨S, _, rfl, IZ.out, MZ.out, US.x KZ.out, fun _ h => .inl h, .inl ⟨HC.out, rfl⟩⟩
  · have I2 := Lib.hid hI
    have HC := Lib.hid h0
    have E2 := Lib.hid hE
    clear hI h0 hE
    have JK := Lib.hid (undo_ok i v E2.out.erv)
    go_wp2_with fail
    refine (settle_any _ b _ I2.out JK.out.1 JK.out.2.1 JK.out.2.2).mono ?_
    rintro ev wz ⟨rfl, hI, hk⟩
    have IZ := Lib.hid hI
    have MZ := Lib.hid (M2.out.off1 hk HBZ.out)
    have KZ := Lib.hid (K2.out.trans (US.one (m := m) (S := S) hk))
    have KO := Lib.hid hk
    clear hI hk
    go_wp2_with fail
    refine (nOver_any _ b _ IZ.out).mono ?_
    rintro ev wy ⟨rfl, rfl⟩
    have EZ := Lib.hid (E2.out.kept KO.out I2.out.fault)
    go_wp2
    go_ret
    exact ⟨S, _, rfl, IZ.out, MZ.out, US.x KZ.out, fun _ h => .inl h, .inr ⟨HC.out, v, EZ.out, rfl⟩⟩
set_option maxRecDepth 100000 in
set_option maxHeartbeats 4000000 in
theorem iStep3 (w : World) (b : Nat) (i : Ins) (m : MB) (S : Nat → Prop) (l : LimN) (k : Int) (ps : List Pt) (L : List Pg) (c : Ck) (hi : InsAt w b i) (h : MemAt w m S l k ps L c) (hb : ¬ MS m S b) (hf : FnOk i.fn) (he : ErV i.er) (hs : i.st = 3) (h5 : i.pt < 5) (d : RecD) (hr : RecIn w (MS m S) (rcLf i.rc i.pt) d) : Calls Try.prog 12 #[.pointer (some ⟨b, 0, none⟩), .pointer (some ⟨m.mb, 0, none⟩)] w (StepP w b m S l k (putM l.s l.c ps d) L c NoX (fun w' j => ((allocM l.s l.c ps).2.2 = 0 ∧ j = fillI i (((allocM l.s l.c ps).1 : Int), ((allocM l.s l.c ps).2.1 : Int))) ∨ ((allocM l.s l.c ps).2.2 ≠ 0 ∧ ∃ v, ErrF w' v (allocM l.s l.c ps).2.2 ∧ j = undoI i v))) := by
  have I0 := Lib.hid hi
  have M0 := Lib.hid h
  have HB := Lib.hid hb
  have FE := Lib.hid (show FnOk i.fn ∧ ErV i.er from ⟨hf, he⟩)
  have x5 := hi.cSt
  have hov : ((i.st : Int) == 0) = false := by rw [hs]; rfl
  have ho := fun w' h => nOver_any w' b i h
  rw [hov] at ho
  have HS := Lib.hid hs
  rw [hs] at x5
  have H5 := Lib.hid h5
  have HR := Lib.hid hr
  have LF := Lib.hid (Nat.le_refl w.heap.size)
  have MF := Lib.hid h
  have FK := Lib.hid (show (fillI i (((allocM l.s l.c ps).1 : Int), ((allocM l.s l.c ps).2.1 : Int))).st ≤ 8 ∧ FnOk (fillI i (((allocM l.s l.c ps).1 : Int), ((allocM l.s l.c ps).2.1 : Int))).fn ∧ ErV (fillI i (((allocM l.s l.c ps).1 : Int), ((allocM l.s l.c ps).2.1 : Int))).er from ⟨(by show i.st ≤ 8; omega), hf, he⟩)
  clear h5 hr
  clear hi h hb hf he hs hov
  go_enter Try.func12, Try.ntmps12
  go_wp2_with fail
  refine (ho _ I0.out).mono ?_
  rintro ev w1 ⟨rfl, rfl⟩
  go_wp2_with fail
  refine (iFill_any _ b i m S l k ps L c d I0.out MF.out HB.out H5.out HR.out).mono ?_
  rintro ev w2 ⟨rfl, S', hM, hk, hS, hcase⟩
  have M2 := Lib.hid hM
  have K2 := Lib.hid hk
  have HBZ := Lib.hid (show ¬ MS m S' b from fun hm => (hS b hm).elim HB.out (fun h => by have := I0.out.lt; omega))
  have FS := Lib.hid (show ∀ x, MS m S' x → MS m S x ∨ w.heap.size ≤ x from fun x hx => (hS x hx).imp id (fun h => by have := LF.out; omega))
  clear hM hk hS
  rcases hcase with ⟨h0, hI⟩ | ⟨h0, v, hE, hI⟩
  · have I2 := Lib.hid hI
    have HC := Lib.hid h0
    clear hI h0
    have JK := Lib.hid (show (fillI i (((allocM l.s l.c ps).1 : Int), ((allocM l.s l.c ps).2.1 : Int))).st ≤ 8 ∧ FnOk (fillI i (((allocM l.s l.c ps).1 : Int), ((allocM l.s l.c ps).2.1 : Int))).fn ∧ ErV (fillI i (((allocM l.s l.c ps).1 : Int), ((allocM l.s l.c ps).2.1 : Int))).er from FK.out)
    go_wp2_with fail
    refine (settle_any _ b _ I2.out JK.out.1 JK.out.2.1 JK.out.2.2).mono ?_
    rintro ev wz ⟨rfl, hI, hk⟩
    have IZ := Lib.hid hI
    have MZ := Lib.hid (M2.out.off1 hk HBZ.out)
    have KZ := Lib.hid (K2.out.trans (US.one (m := m) (S := S) hk))
    have KO := Lib.hid hk
    clear hI hk
    go_wp2_with fail
    refine (nOver_any _ b _ IZ.out).mono ?_
    rintro ev wy ⟨rfl, rfl⟩
    go_wp2
    go_ret
    exact ⟨S', _, rfl, IZ.out, MZ.out, US.x KZ.out, FS.out, .inl ⟨HC.out, rfl⟩⟩
  · have I2 := Lib.hid hI
    have HC := Lib.hid h0
    have E2 := Lib.hid hE
    clear hI h0 hE
    have JK := Lib.hid (undo_ok i v E2.out.erv)
    go_wp2_with fail
    refine (settle_any _ b _ I2.out JK.out.1 JK.out.2.1 JK.out.2.2).mono ?_
    rintro ev wz ⟨rfl, hI, hk⟩
    have IZ := Lib.hid hI
    have MZ := Lib.hid (M2.out.off1 hk HBZ.out)
    have KZ := Lib.hid (K2.out.trans (US.one (m := m) (S := S) hk))
    have KO := Lib.hid hk
    clear hI hk
    go_wp2_with fail
    refine (nOver_any _ b _ IZ.out).mono ?_
    rintro ev wy ⟨rfl, rfl⟩
    have EZ := Lib.hid (E2.out.kept KO.out I2.out.fault)
    go_wp2
    go_ret
    exact ⟨S', _, rfl, IZ.out, MZ.out, US.x KZ.out, FS.out, .inr ⟨HC.out, v, EZ.out, rfl⟩⟩
set_option maxRecDepth 100000 in
set_option maxHeartbeats 4000000 in
theorem iStep5 (w : World) (b : Nat) (i : Ins) (m : MB) (S : Nat → Prop) (l : LimN) (k : Int) (ps : List Pt) (L : List Pg) (c : Ck) (hi : InsAt w b i) (h : MemAt w m S l k ps L c) (hb : ¬ MS m S b) (hf : FnOk i.fn) (he : ErV i.er) (hs : i.st = 5) (h5 : i.pt < 5) (d : RecD) (hr : RecIn w (MS m S) (rcLf i.rc i.pt) d) : Calls Try.prog 12 #[.pointer (some ⟨b, 0, none⟩), .pointer (some ⟨m.mb, 0, none⟩)] w (StepP w b m S l k (putM l.s l.c ps d) L c NoX (fun w' j => ((allocM l.s l.c ps).2.2 = 0 ∧ j = fillI i (((allocM l.s l.c ps).1 : Int), ((allocM l.s l.c ps).2.1 : Int))) ∨ ((allocM l.s l.c ps).2.2 ≠ 0 ∧ ∃ v, ErrF w' v (allocM l.s l.c ps).2.2 ∧ j = undoI i v))) := by
  have I0 := Lib.hid hi
  have M0 := Lib.hid h
  have HB := Lib.hid hb
  have FE := Lib.hid (show FnOk i.fn ∧ ErV i.er from ⟨hf, he⟩)
  have x5 := hi.cSt
  have hov : ((i.st : Int) == 0) = false := by rw [hs]; rfl
  have ho := fun w' h => nOver_any w' b i h
  rw [hov] at ho
  have HS := Lib.hid hs
  rw [hs] at x5
  have H5 := Lib.hid h5
  have HR := Lib.hid hr
  have LF := Lib.hid (Nat.le_refl w.heap.size)
  have MF := Lib.hid h
  have FK := Lib.hid (show (fillI i (((allocM l.s l.c ps).1 : Int), ((allocM l.s l.c ps).2.1 : Int))).st ≤ 8 ∧ FnOk (fillI i (((allocM l.s l.c ps).1 : Int), ((allocM l.s l.c ps).2.1 : Int))).fn ∧ ErV (fillI i (((allocM l.s l.c ps).1 : Int), ((allocM l.s l.c ps).2.1 : Int))).er from ⟨(by show i.st ≤ 8; omega), hf, he⟩)
  clear h5 hr
  clear hi h hb hf he hs hov
  go_enter Try.func12, Try.ntmps12
  go_wp2_with fail
  refine (ho _ I0.out).mono ?_
  rintro ev w1 ⟨rfl, rfl⟩
  go_wp2_with fail
  refine (iFill_any _ b i m S l k ps L c d I0.out MF.out HB.out H5.out HR.out).mono ?_
  rintro ev w2 ⟨rfl, S', hM, hk, hS, hcase⟩
  have M2 := Lib.hid hM
  have K2 := Lib.hid hk
  have HBZ := Lib.hid (show ¬ MS m S' b from fun hm => (hS b hm).elim HB.out (fun h => by have := I0.out.lt; omega))
  have FS := Lib.hid (show ∀ x, MS m S' x → MS m S x ∨ w.heap.size ≤ x from fun x hx => (hS x hx).imp id (fun h => by have := LF.out; omega))
  clear hM hk hS
  rcases hcase with ⟨h0, hI⟩ | ⟨h0, v, hE, hI⟩
  · have I2 := Lib.hid hI
    have HC := Lib.hid h0
    clear hI h0
    have JK := Lib.hid (show (fillI i (((allocM l.s l.c ps).1 : Int), ((allocM l.s l.c ps).2.1 : Int))).st ≤ 8 ∧ FnOk (fillI i (((allocM l.s l.c ps).1 : Int), ((allocM l.s l.c ps).2.1 : Int))).fn ∧ ErV (fillI i (((allocM l.s l.c ps).1 : Int), ((allocM l.s l.c ps).2.1 : Int))).er from FK.out)
    go_wp2_with fail
    refine (settle_any _ b _ I2.out JK.out.1 JK.out.2.1 JK.out.2.2).mono ?_
    rintro ev wz ⟨rfl, hI, hk⟩
    have IZ := Lib.hid hI
    have MZ := Lib.hid (M2.out.off1 hk HBZ.out)
    have KZ := Lib.hid (K2.out.trans (US.one (m := m) (S := S) hk))
    have KO := Lib.hid hk
    clear hI hk
    go_wp2_with fail
    refine (nOver_any _ b _ IZ.out).mono ?_
    rintro ev wy ⟨rfl, rfl⟩
    go_wp2
    go_ret
    exact ⟨S', _, rfl, IZ.out, MZ.out, US.x KZ.out, FS.out, .inl ⟨HC.out, rfl⟩⟩
  · have I2 := Lib.hid hI
    have HC := Lib.hid h0
    have E2 := Lib.hid hE
    clear hI h0 hE
    have JK := Lib.hid (undo_ok i v E2.out.erv)
    go_wp2_with fail
    refine (settle_any _ b _ I2.out JK.out.1 JK.out.2.1 JK.out.2.2).mono ?_
    rintro ev wz ⟨rfl, hI, hk⟩
    have IZ := Lib.hid hI
    have MZ := Lib.hid (M2.out.off1 hk HBZ.out)
    have KZ := Lib.hid (K2.out.trans (US.one (m := m) (S := S) hk))
    have KO := Lib.hid hk
    clear hI hk
    go_wp2_with fail
    refine (nOver_any _ b _ IZ.out).mono ?_
    rintro ev wy ⟨rfl, rfl⟩
    have EZ := Lib.hid (E2.out.kept KO.out I2.out.fault)
    go_wp2
    go_ret
    exact ⟨S', _, rfl, IZ.out, MZ.out, US.x KZ.out, FS.out, .inr ⟨HC.out, v, EZ.out, rfl⟩⟩
end Go.Proofs.Ytaiaaljahnackaa
