/- Package install's Begin, Done, Head, Pages; package mem's Head, by contracts. -/
import Derived.Test.YtejmdmaebkdjoaaGreatDoorNsStepA
namespace Go.Proofs.YtejmdmaebkdjoaaGreatDoor
set_option linter.unusedVariables false
set_option linter.unusedSimpArgs false
set_option maxRecDepth 100000
set_option maxHeartbeats 4000000
open Go.RowKit
def jobV (page os og news : Int) (fn : Value) : Value := .agg #[.int .i64 page, .int .i64 os, .int .i64 og, .int .i64 news, fn]
def errArg : Value := .iface 65 (.int .i64 1)
theorem errArg_ok : ErV errArg := .inr ⟨_, _, rfl⟩
def beginI (page os og : Int) (n : Nat) (fn : Value) : Ins := { Ins.zero .nilIface with page := page, os := os, og := og, news := n, fn := fn, st := 1 }
theorem right_y (page os og news : Int) (f : Fn) (a c : Array Value) (h0 : 0 ≤ news) (h4 : news ≤ 4) (w : World) : Calls Tryz.prog 35 #[jobV page os og news (.func f a c)] w fun ev w' => ev = .returned (.bool true) ∧ Below w.heap.size w w' := by
 have B0 := Lib.hid (alloc_below0 w (.cells #[.int .i64 page, .int .i64 os, .int .i64 og, .int .i64 news, (.func f a c)] 62))
 have q := funcNe
 unfold jobV
 go_enter Tryz.func35, Tryz.ntmps35
 go_wp2
 go_ret
 exact ⟨rfl, B0.out⟩
theorem right_o (page os og news : Int) (f : Fn) (a c : Array Value) (h4 : news < 0 ∨ 4 < news) (w : World) : Calls Tryz.prog 35 #[jobV page os og news (.func f a c)] w fun ev w' => ev = .returned (.bool false) ∧ Below w.heap.size w w' := by
 have B0 := Lib.hid (alloc_below0 w (.cells #[.int .i64 page, .int .i64 os, .int .i64 og, .int .i64 news, (.func f a c)] 62))
 have q := funcNe
 unfold jobV
 rcases h4 with h4 | h4
 ·have h5 : ¬ ((0 : Int) ≤ news) := by omega
  go_enter Tryz.func35, Tryz.ntmps35
  go_wp2
  go_ret
  exact ⟨rfl, B0.out⟩
 ·have h5 : ¬ (news ≤ 4) := by omega
  go_enter Tryz.func35, Tryz.ntmps35
  go_wp2
  go_ret
  exact ⟨rfl, B0.out⟩
theorem jobInfo : (Tryz.prog.info? 62).map (·.size) = some 5 := by kernel_rfl
theorem built_begin (page os og : Int) (n : Nat) (f : Fn) (a c : Array Value) : Tryz.prog.built 112 [(0, jobV page os og (n : Int) (.func f a c)), (1, .int .i64 1)] = some (beginI page os og n (.func f a c)).list.toArray := by kernel_rfl
theorem InsAt.new (w : World) (i : Ins) : InsAt (w.alloc (.cells i.list.toArray 112)) w.heap.size i := ⟨blk_new w _⟩
theorem begin_o (page os og news : Int) (f : Fn) (a c : Array Value) (h4 : news < 0 ∨ 4 < news) (w : World) : Calls Tryz.prog 8 #[jobV page os og news (.func f a c)] w fun ev w' => ∃ b, ev = .returned (.pointer (some ⟨b, 0, none⟩)) ∧ InsAt w' b (Ins.zero errArg) ∧ w.heap.size ≤ b ∧ Below w.heap.size w w' := by
 have B0 := Lib.hid (alloc_below0 w (.cells #[.int .i64 page, .int .i64 os, .int .i64 og, .int .i64 news, (.func f a c)] 62))
 have fr := fun w => right_o page os og news f a c h4 w
 have BZ := Lib.hid (built_zero errArg_ok)
 unfold jobV at fr ⊢
 go_enter Tryz.func8, Tryz.ntmps8
 go_wp2_with fail
 refine (fr _).mono ?_
 rintro ev w1 ⟨rfl, hs⟩
 have B1 := Lib.hid (B0.out.trans (hs.mono B0.out.size))
 have IN := Lib.hid (InsAt.new w1 (Ins.zero errArg))
 have BN := Lib.hid (alloc_below0 w1 (.cells (Ins.zero errArg).list.toArray 112))
 clear hs fr
 go_wp2_with (refine wpList_build_to rfl 112 _ rfl (Ins.zero errArg).list.toArray BZ.out ?_)
 go_ret
 exact ⟨_, rfl, IN.out, B1.out.size, B1.out.trans (BN.out.mono B1.out.size)⟩
theorem begin_y (page os og : Int) (n : Nat) (f : Fn) (a c : Array Value) (h4 : n ≤ 4) (w : World) : Calls Tryz.prog 8 #[jobV page os og (n : Int) (.func f a c)] w fun ev w' => ∃ b, ev = .returned (.pointer (some ⟨b, 0, none⟩)) ∧ InsAt w' b (settleI (beginI page os og n (.func f a c))) ∧ w.heap.size ≤ b ∧ Below w.heap.size w w' := by
 have B0 := Lib.hid (alloc_below0 w (.cells #[.int .i64 page, .int .i64 os, .int .i64 og, .int .i64 (n : Int), (.func f a c)] 62))
 have fr := fun w => right_y page os og (n : Int) f a c (by omega) (by omega) w
 have X0 := Lib.hid (blk_new w (.cells #[.int .i64 page, .int .i64 os, .int .i64 og, .int .i64 (n : Int), (.func f a c)] 62))
 have BZ := Lib.hid (built_begin page os og n f a c)
 unfold jobV at fr ⊢
 go_enter Tryz.func8, Tryz.ntmps8
 go_wp2_with fail
 refine (fr _).mono ?_
 rintro ev w1 ⟨rfl, hs⟩
 have B1 := Lib.hid (B0.out.trans (hs.mono B0.out.size))
 have X1 := Lib.hid (blk_step X0.out hs)
 have RG := Lib.hid (show w1.rangeAt w.heap.size 0 [.int .i64 page, .int .i64 os, .int .i64 og, .int .i64 (n : Int), .func f a c] from blk_rng X1.out)
 have IN := Lib.hid (InsAt.new w1 (beginI page os og n (.func f a c)))
 have BN := Lib.hid (alloc_below0 w1 (.cells (beginI page os og n (.func f a c)).list.toArray 112))
 clear hs fr
 go_wp2_with (first | (refine wpList_load_mid rfl 62 (.tmp 1) rfl w.heap.size 0 rfl [.int .i64 page, .int .i64 os, .int .i64 og, .int .i64 (n : Int), .func f a c] _ ?_ Tryz.underlying62 rfl jobInfo ?_; exact RG.out) | (refine wpList_build_to rfl 112 _ rfl (beginI page os og n (.func f a c)).list.toArray ?_ ?_; exact (congrArg (Program.built Tryz.prog 112) (by rfl)).trans BZ.out))
 refine (settle_any _ w1.heap.size _ IN.out (show 1 ≤ 8 by decide) (.inr ⟨f, a, c, rfl⟩) (.inl rfl)).mono ?_
 rintro ev w2 ⟨rfl, hI, hk⟩
 have I2 := Lib.hid hI
 have B2 := Lib.hid ((B1.out.trans (BN.out.mono B1.out.size)).trans (hk.below (n := w.heap.size) (fun k e => by have := B1.out.size; omega) (by have h1 := B1.out.size; have h2 := BN.out.size; omega)))
 clear hI hk
 go_wp2
 go_ret
 exact ⟨_, rfl, I2.out, B1.out.size, B2.out⟩
theorem done_any (w : World) (b : Nat) (i : Ins) (h : InsAt w b i) (hs : i.st = 0) : Calls Tryz.prog 14 #[.pointer (some ⟨b, 0, none⟩)] w fun ev w' => ev = .returned (.tuple #[.bool i.dn, i.er]) ∧ Below w.heap.size w w' := by
 have I0 := Lib.hid h
 have ho := fun w' h => nOver_any w' b i h
 have hov : ((i.st : Int) == 0) = true := by rw [hs]; rfl
 rw [hov] at ho
 have y0 := h.cDn
 have y1 := h.cEr
 clear h hs hov
 go_enter Tryz.func14, Tryz.ntmps14
 go_wp2_with fail
 refine (ho _ I0.out).mono ?_
 rintro ev w1 ⟨rfl, rfl⟩
 go_wp2
 go_quiet (fail)
 go_wp2
 go_ret2
 exact ⟨rfl, below_drewN (Below.refl _ _) _⟩
theorem done_busy (w : World) (b : Nat) (i : Ins) (h : InsAt w b i) (hs : i.st ≠ 0) : Calls Tryz.prog 14 #[.pointer (some ⟨b, 0, none⟩)] w fun ev w' => ev = .returned (.tuple #[.bool false, .iface 65 (.int .i64 11)]) ∧ Below w.heap.size w w' := by
 have I0 := Lib.hid h
 have ho := fun w' h => nOver_any w' b i h
 have hov : ((i.st : Int) == 0) = false := by
  have : ¬ (i.st : Int) = 0 := by omega
  simpa using this
 rw [hov] at ho
 clear h hs hov
 go_enter Tryz.func14, Tryz.ntmps14
 go_wp2_with fail
 refine (ho _ I0.out).mono ?_
 rintro ev w1 ⟨rfl, rfl⟩
 go_wp2
 go_ret2
 exact ⟨rfl, Below.refl _ _⟩
end Go.Proofs.YtejmdmaebkdjoaaGreatDoor
