/- The walk of the law MemChains. -/
import Derived.Test.YtkkmfacngmginaaDoorMmRefC
import Derived.Test.YtkkmfacngmginaaDoorMmFew
import Derived.Test.YtkkmfacngmginaaDoorFltCode
namespace Go.Proofs.YtkkmfacngmginaaDoor
open Go.RowKit

theorem allocM1 {n l : Nat} (h1 : 2 ≤ n) (h2 : 1 ≤ l) : allocM n l psB = (2, 1, 0) := by
  obtain ⟨k, rfl⟩ : ∃ k, n = k + 1 + 1 := ⟨n - 2, by omega⟩
  have e1 : slotOf psB 1 = (1, true) := rfl
  have e2 : slotOf psB 2 = (0, false) := rfl
  unfold allocM
  rw [slot_used (by rw [e1]), slot_free (by rw [e2]) (by rw [e2]; exact h2), e2]
theorem putM1 {n l : Nat} (d : RecD) (h1 : 2 ≤ n) (h2 : 1 ≤ l) : putM n l psB d = psB ++ [⟨2, 1, d, true⟩] := by unfold putM; rw [allocM1 h1 h2]; rfl
def pgs2 (p : Nat) : List Pg := some (2, 1) :: pages0 (p - 1)
theorem swap1 (p : Nat) : swapB (pgs1 p) 0 (1, 1) = true ∧ swapL (pgs1 p) 0 (1, 1) (2, 1) = pgs2 p ∧ codeT (pgs1 p) 0 = 0 := by
  have e : swapB (pgs1 p) 0 (1, 1) = true := by
    unfold swapB pgs1
    rw [code0, show headT (some (1, 1) :: pages0 (p - 1)) 0 = (1, 1) from headT_at (i := 0) rfl]; rfl
  refine ⟨e, ?_, code0 _ _⟩
  unfold swapL
  rw [if_pos e]
  rfl
theorem ErrF.chn {w : World} {v : Value} {e : Int} (h : ErrF w v e) (h0 : e ≠ 0) : ∃ l, Fl.Chn w v l e := by
  rcases h with ⟨h1, -⟩ | ⟨-, rfl | ⟨b, pl, x, rfl, hb⟩⟩
  · exact absurd h1 h0
  · exact ⟨[], rfl⟩
  · exact ⟨[(pl, x)], b, _, rfl, blk_cell hb 0, blk_cell hb 1, blk_cell hb 2, rfl⟩
theorem code_errF (v : Value) (e : Int) (w : World) (h : ErrF w v e) (hg : Fl.Glob w) : Calls Tryd.prog 15 #[v] w fun ev w' => ev = .returned (.int .i64 e) ∧ Below w.heap.size w w' := by
  by_cases h0 : e = 0
  · rcases h with ⟨h1, rfl⟩ | ⟨h1, -⟩
    · rw [h0]; exact Fl.Code_nil w
    · exact absurd h0 h1
  · obtain ⟨l, hl⟩ := h.chn h0
    exact Fl.Code_chain l e v w hl hg
theorem ErrF.form {w : World} {v : Value} {e : Int} (h : ErrF w v e) : (e = 0 ∧ v = .nilIface) ∨ (e ≠ 0 ∧ ∃ t x, v = .iface t x) := by
  rcases h with h | ⟨h0, h | ⟨b, pl, x, h1, -⟩⟩
  · exact .inl h
  · exact .inr ⟨h0, _, _, h⟩
  · exact .inr ⟨h0, _, _, h1⟩
set_option maxRecDepth 100000 in
set_option maxHeartbeats 8000000 in
theorem lawChains (l : Lim) (ns ng page : Int) (w : World) (hg : Fl.Glob w) :
    Calls Tryd.prog 5 #[limV l, refV ns ng, .int .i64 page] w fun ev w' => ev = .returned (.bool true) ∧ Below w.heap.size w w' := by
  have hnot : ∀ (x : Bool) (w : World), (Op.unary .not (.bool x)).run Tryd.prog w = .ok (.bool (!x)) w := fun _ _ => rfl
  obtain ⟨W0, hW0⟩ : ∃ W, W = (w.alloc (limObj l)).alloc (.cells #[.int .i64 ns, .int .i64 ng] 30) := ⟨_, rfl⟩
  have b0 : Below w.heap.size w W0 := by rw [hW0]; exact (alloc_below0 _ _).trans ((alloc_below0 _ _).mono (alloc_below0 w _).size)
  have B0 := Lib.hid b0
  have G0 := Lib.hid (Fl.Glob.below b0 hg)
  have L0 := Lib.hid (show LimAt W0 w.heap.size l by rw [hW0]; exact (LimAt.new w l).step (alloc_below0 _ _))
  have X0 := Lib.hid (show RfB W0 (w.heap.size + 1) ns ng from ⟨by rw [hW0, show w.heap.size + 1 = (w.alloc (limObj l)).heap.size by simp]; exact blk_new _ _⟩)
  clear b0 hg
  unfold limObj at hW0
  unfold limV refV
  have ff := fun w => few_any l (.slice none 0 0) [] w (SV.nil _ _)
  have fr := fun w => rRight_any l w
  unfold limV at ff fr
  go_enter Tryd.func5, Tryd.ntmps5
  go_wp2_with fail
  rw [← hW0]
  clear hW0
  refine (ff _).mono ?_
  rintro ev w1 ⟨b, rfl, hs⟩
  have B1 := Lib.hid (B0.out.trans (hs.mono B0.out.size))
  have G1 := Lib.hid (Fl.Glob.below hs G0.out)
  have L1 := Lib.hid (L0.out.step hs)
  have X1 := Lib.hid (X0.out.step hs)
  clear hs ff B0 G0 L0 X0
  cases b with
  | false =>
    go_wp2_with fail
    refine (awakeMm _).mono ?_
    rintro ev w2 ⟨rfl, hs⟩
    have B2 := Lib.hid (B1.out.trans (hs.mono B1.out.size))
    clear hs
    go_wp2
    go_ret
    exact ⟨rfl, B2.out⟩
  | true =>
    have x0 := L1.out.c0
    have x1 := L1.out.c1
    have x2 := L1.out.c2
    have x3 := L1.out.c3
    have x4 := L1.out.c4
    have x5 := L1.out.c5
    go_wp2_with fail
    refine (fr _).mono ?_
    rintro ev w2 ⟨rfl, hs⟩
    have B2 := Lib.hid (B1.out.trans (hs.mono B1.out.size))
    have G2 := Lib.hid (Fl.Glob.below hs G1.out)
    have L2 := Lib.hid (L1.out.step hs)
    have X2 := Lib.hid (X1.out.step hs)
    clear hs fr B1 G1 L1 X1 x0 x1 x2 x3 x4 x5
    cases hok : l.okB with
    | false =>
      go_wp2_with fail
      refine (awakeMm _).mono ?_
      rintro ev w3 ⟨rfl, hs⟩
      have B3 := Lib.hid (B2.out.trans (hs.mono B2.out.size))
      clear hs
      go_wp2
      go_ret
      exact ⟨rfl, B3.out⟩
    | true =>
      obtain ⟨ln, rfl, hln⟩ := Lim.ok_of hok
      have OK := Lib.hid hln
      have AL := Lib.hid (show allocM ln.s ln.c psB = (2, 1, 0) ∧ putM ln.s ln.c psB (⟨(⟨2, ⟨#[]⟩, ⟨#[]⟩, false, 0, ⟨#[]⟩, ⟨#[]⟩, 0, 0, 0, ⟨#[]⟩, ns, ng⟩ : Sc), [], []⟩ : RecD) = psB ++ [⟨2, 1, (⟨(⟨2, ⟨#[]⟩, ⟨#[]⟩, false, 0, ⟨#[]⟩, ⟨#[]⟩, 0, 0, 0, ⟨#[]⟩, ns, ng⟩ : Sc), [], []⟩ : RecD), true⟩] from ⟨allocM1 (by have := hln.s1; omega) (by have := hln.c1; omega), putM1 _ (by have := hln.s1; omega) (by have := hln.c1; omega)⟩)
      have SW := Lib.hid (swap1 ln.p)
      have x0 := L2.out.c0
      have x1 := L2.out.c1
      have x2 := L2.out.c2
      have x3 := L2.out.c3
      have x4 := L2.out.c4
      have x5 := L2.out.c5
      unfold LimN.z at x0 x1 x2 x3 x4 x5 L2 ⊢
      simp only at x0 x1 x2 x3 x4 x5 ⊢
      have fn := fun w => mem_new ln OK.out w
      have fq := fun w => rNew_any ln OK.out w
      unfold limV LimN.z at fn fq
      clear hok hln
      go_wp2_with fail
      refine (fn _).mono ?_
      rintro ev w3 ⟨m, S, rfl, hM, hF, hs⟩
      have M3 := Lib.hid hM
      have F3 := Lib.hid hF
      have W3 := Lib.hid hs
      have e4 := (X2.out.step hs).c0
      have e5 := (X2.out.step hs).c1
      clear hM hF hs fn x0 x1 x2 x3 x4 x5
      have fa := fun w h => mAlloc_any w m S ln 0 psB (pgs1 ln.p) (Ck.new ln.t ln.c) (⟨2, ⟨#[]⟩, ⟨#[]⟩, false, 0, ⟨#[]⟩, ⟨#[]⟩, 0, 0, 0, ⟨#[]⟩, ns, ng⟩ : Sc) h
      rw [AL.out.1, AL.out.2] at fa
      unfold recVal refV at fa
      go_wp2_with fail
      refine (fa _ M3.out).mono ?_
      rintro ev w4 ⟨S4, ve, rfl, he, ⟨k4, hM⟩, hk, hS⟩
      obtain rfl : ve = .nilIface := by
        rcases he with ⟨-, h⟩ | ⟨h, -⟩
        · exact h
        · exact absurd rfl h
      have M4 := Lib.hid hM
      have W4 := Lib.hid (W3.out.trans (hk.below F3.out W3.out.size))
      have F4 := Lib.hid (show ∀ j, MS m S4 j → w2.heap.size ≤ j from fun j hj => (hS j hj).elim (F3.out j) (Nat.le_trans W3.out.size))
      clear he hM hk hS fa e4 e5 M3 F3 W3
      have b5 := alloc_below0 w4 (.cells #[.int .i64 2, .int .i64 1] 30)
      have M5 := Lib.hid (M4.out.low b5)
      have W5 := Lib.hid (W4.out.trans (b5.mono W4.out.size))
      clear b5
      have fw := fun w h => mSwap_any w m S4 ln k4 (psB ++ [⟨2, 1, (⟨(⟨2, ⟨#[]⟩, ⟨#[]⟩, false, 0, ⟨#[]⟩, ⟨#[]⟩, 0, 0, 0, ⟨#[]⟩, ns, ng⟩ : Sc), [], []⟩ : RecD), true⟩]) (pgs1 ln.p) (Ck.new ln.t ln.c) 0 1 1 2 1 h
      rw [SW.out.1, SW.out.2.1, SW.out.2.2] at fw
      unfold refV at fw
      go_wp2_with fail
      refine (fw _ M5.out).mono ?_
      rintro ev w6 ⟨ve, rfl, he, ⟨k6, hM⟩, hk⟩
      obtain rfl : ve = .nilIface := by
        rcases he with ⟨-, h⟩ | ⟨h, -⟩
        · exact h
        · exact absurd rfl h
      have M6 := Lib.hid hM
      have W6 := Lib.hid (W5.out.trans (hk.below F4.out W5.out.size))
      clear he hM hk fw M4 M5 W4 W5 F4
      have x0 := (L2.out.step W6.out).c0
      have x1 := (L2.out.step W6.out).c1
      have x2 := (L2.out.step W6.out).c2
      have x3 := (L2.out.step W6.out).c3
      have x4 := (L2.out.step W6.out).c4
      have x5 := (L2.out.step W6.out).c5
      simp only at x0 x1 x2 x3 x4 x5
      go_wp2_with fail
      refine (fq _).mono ?_
      rintro ev w7 ⟨pv, us, tv, ups, cv, rfl, hpv, hbu, hpm, htv, hrk, hle, ⟨cva, cvn, cvc, rfl⟩, hs⟩
      obtain ⟨ua, uc, rfl, -, -⟩ := hpv.sv.lenform
      obtain ⟨va, vc, rfl, -, -⟩ := htv.sv.lenform
      have M7 := Lib.hid (M6.out.low hs)
      have W7 := Lib.hid (W6.out.trans (hs.mono W6.out.size))
      have PV7 := Lib.hid hpv
      have TV7 := Lib.hid htv
      have PM := Lib.hid (And.intro hbu (And.intro hpm (And.intro hrk hle)))
      have S7 := Lib.hid hs.size
      clear hs hpv hbu hpm htv hrk hle fq x0 x1 x2 x3 x4 x5 M6 W6
      obtain ⟨un, hun⟩ : ∃ n, us.length = n := ⟨_, rfl⟩
      obtain ⟨tn, htn⟩ : ∃ n, ups.length = n := ⟨_, rfl⟩
      have UN := Lib.hid (And.intro hun htn)
      rw [hun] at PV7 ⊢
      rw [htn] at TV7 ⊢
      clear hun htn
      unfold memR
      have b8 := alloc_below0 w7 (mrObj ln (.int .i64 (ln.s : Int)) (.int .i64 (ln.c : Int)) (.slice ua un uc) (.int .i64 (ln.p : Int)) (.slice va tn vc) (.int .i64 (Ck.new ln.t ln.c).n) (.int .i64 (Ck.new ln.t ln.c).l) (.slice cva cvn cvc))
      have M8 := Lib.hid (M7.out.low b8)
      have W8 := Lib.hid (W7.out.trans (b8.mono W7.out.size))
      have PV8 := Lib.hid (PV7.out.below b8)
      have TV8 := Lib.hid (TV7.out.below b8)
      have N8 := Lib.hid (blk_new w7 (mrObj ln (.int .i64 (ln.s : Int)) (.int .i64 (ln.c : Int)) (.slice ua un uc) (.int .i64 (ln.p : Int)) (.slice va tn vc) (.int .i64 (Ck.new ln.t ln.c).n) (.int .i64 (Ck.new ln.t ln.c).l) (.slice cva cvn cvc)))
      have e4 := (X2.out.step W8.out).c0
      have e5 := (X2.out.step W8.out).c1
      have MLT := Lib.hid (show ∀ j, MS m S4 j → j < w7.heap.size from M7.out.lt)
      have WLT := Lib.hid W7.out.size
      clear b8 M7 W7 PV7 TV7
      have fal := fun w h => rf_alloc ln.s ln.c (.slice ua un uc) _ us (⟨(⟨2, ⟨#[]⟩, ⟨#[]⟩, false, 0, ⟨#[]⟩, ⟨#[]⟩, 0, 0, 0, ⟨#[]⟩, ns, ng⟩ : Sc), [], []⟩ : RecD) w h (RecV.bare (⟨2, ⟨#[]⟩, ⟨#[]⟩, false, 0, ⟨#[]⟩, ⟨#[]⟩, 0, 0, 0, ⟨#[]⟩, ns, ng⟩ : Sc) w) (by have := congrArg List.length PM.out.2.1; simp [psB] at this; omega) OK.out.s2 OK.out.c2
      rw [PM.out.2.1] at fal
      simp only [AL.out.1, AL.out.2, refA] at fal
      unfold mrObj at M8 W8 PV8 TV8 e4 e5
      unfold recVal refV at fal
      go_wp2_with fail
      refine (fal _ (PM.out.1.puts PV8.out)).mono ?_
      rintro ev w9 ⟨pv2, us2, rfl, -, hpm, -, ⟨hnp, hbr⟩, hs⟩
      have hne : us2 ≠ us := fun e => by rw [e, PM.out.2.1] at hpm; simp [psB] at hpm
      have ho := hnp.own hne
      have hb2 := Bare.next (sc := (⟨2, ⟨#[]⟩, ⟨#[]⟩, false, 0, ⟨#[]⟩, ⟨#[]⟩, 0, 0, 0, ⟨#[]⟩, ns, ng⟩ : Sc)) (d := (⟨(⟨2, ⟨#[]⟩, ⟨#[]⟩, false, 0, ⟨#[]⟩, ⟨#[]⟩, 0, 0, 0, ⟨#[]⟩, ns, ng⟩ : Sc), [], []⟩ : RecD)) PM.out.1 hbr
      have M9 := Lib.hid (M8.out.low hs)
      have W9 := Lib.hid (W8.out.trans (hs.mono W8.out.size))
      have PV9 := Lib.hid (ho.mono (Nat.zero_le _))
      have TV9 := Lib.hid (TV8.out.below hs)
      have N9 := Lib.hid (blk_step N8.out hs)
      have PN := Lib.hid (And.intro hb2 hpm)
      have S9 := Lib.hid (show w7.heap.size < w9.heap.size from (Array.getElem?_eq_some_iff.1 N9.out).1)
      obtain ⟨pa, pc, rfl, -, -⟩ := ho.sv.lenform
      obtain ⟨pn, hpn⟩ : ∃ n, us2.length = n := ⟨_, rfl⟩
      have PL := Lib.hid hpn
      rw [hpn] at PV9 ⊢
      clear hs ho hb2 hne hnp hbr hpm hpn fal e4 e5 M8 W8 PV8 TV8 N8
      have b10 := (alloc_below0 w9 (.cells #[.int .i64 (ln.s : Int), .int .i64 (ln.c : Int), .slice pa pn pc] 82)).trans ((alloc_below0 (w9.alloc (.cells #[.int .i64 (ln.s : Int), .int .i64 (ln.c : Int), .slice pa pn pc] 82)) (.cells #[.int .i64 2, .int .i64 1] 30)).mono (alloc_below0 w9 (.cells #[.int .i64 (ln.s : Int), .int .i64 (ln.c : Int), .slice pa pn pc] 82)).size)
      have M10 := Lib.hid (M9.out.low b10)
      have W10 := Lib.hid (W9.out.trans (b10.mono W9.out.size))
      have PV10 := Lib.hid (PV9.out.below b10)
      have TV10 := Lib.hid (TV9.out.below b10)
      have N10 := Lib.hid (blk_step N9.out b10)
      have A10 := Lib.hid (blk_step (blk_new w9 (.cells #[.int .i64 (ln.s : Int), .int .i64 (ln.c : Int), .slice pa pn pc] 82)) (alloc_below0 (w9.alloc (.cells #[.int .i64 (ln.s : Int), .int .i64 (ln.c : Int), .slice pa pn pc] 82)) (.cells #[.int .i64 2, .int .i64 1] 30)))
      have R10 := Lib.hid (show ((w9.alloc (.cells #[.int .i64 (ln.s : Int), .int .i64 (ln.c : Int), .slice pa pn pc] 82)).alloc (.cells #[.int .i64 2, .int .i64 1] 30)).heap[w9.heap.size + 1]? = some (.cells #[.int .i64 2, .int .i64 1] 30) from by rw [show w9.heap.size + 1 = (w9.alloc (.cells #[.int .i64 (ln.s : Int), .int .i64 (ln.c : Int), .slice pa pn pc] 82)).heap.size by simp]; exact blk_new _ _)
      clear b10 M9 W9 PV9 TV9 N9
      have n_9 : ((w9.alloc (.cells #[.int .i64 (ln.s : Int), .int .i64 (ln.c : Int), .slice pa pn pc] 82)).alloc (.cells #[.int .i64 2, .int .i64 1] 30)).cell? ⟨w7.heap.size, 9, none⟩ = some (.int .i64 (ln.p : Int)) := blk_cell N10.out 9
      have n_10 : ((w9.alloc (.cells #[.int .i64 (ln.s : Int), .int .i64 (ln.c : Int), .slice pa pn pc] 82)).alloc (.cells #[.int .i64 2, .int .i64 1] 30)).cell? ⟨w7.heap.size, 10, none⟩ = some (.slice va tn vc) := blk_cell N10.out 10
      have fsw := fun w h => rf_swap ln.p (.slice va tn vc) ups (pgs1 ln.p) 0 1 1 2 1 w h PM.out.2.2.1 (by have := OK.out.p1; simp [pgs1, pages0]; omega) (by have := PM.out.2.2.2; omega)
      simp only [SW.out.1, SW.out.2.1, SW.out.2.2, refT, refV] at fsw
      go_wp2_with fail
      refine (fsw _ TV10.out).mono ?_
      rintro ev w11 ⟨tv2, ups2, rfl, hto, hrk, -, hs⟩
      have M11 := Lib.hid (M10.out.low hs)
      have W11 := Lib.hid (W10.out.trans (hs.mono W10.out.size))
      have PV11 := Lib.hid (PV10.out.below hs)
      have TV11 := Lib.hid hto
      have N11 := Lib.hid (blk_step N10.out hs)
      have A11 := Lib.hid (blk_step A10.out hs)
      have RK := Lib.hid hrk
      obtain ⟨ta, tc, rfl, -, -⟩ := hto.sv.lenform
      obtain ⟨qn, hqn⟩ : ∃ n, ups2.length = n := ⟨_, rfl⟩
      have QL := Lib.hid hqn
      rw [hqn] at TV11 ⊢
      clear hs hto hrk hqn fsw n_9 n_10 M10 W10 PV10 TV10 N10 A10 R10
      have b12 := alloc_below0 w11 (.cells #[.int .i64 (ln.p : Int), .slice ta qn tc] 85)
      have M12 := Lib.hid (M11.out.low b12)
      have W12 := Lib.hid (W11.out.trans (b12.mono W11.out.size))
      have PV12 := Lib.hid (PV11.out.below b12)
      have TV12 := Lib.hid (TV11.out.below b12)
      have N12 := Lib.hid (blk_step N11.out b12)
      have A12 := Lib.hid (blk_step A11.out b12)
      have T12 := Lib.hid (blk_new w11 (.cells #[.int .i64 (ln.p : Int), .slice ta qn tc] 85))
      have S11 := Lib.hid (show w9.heap.size < w11.heap.size from (Array.getElem?_eq_some_iff.1 A11.out).1)
      clear b12 M11 W11 PV11 TV11 N11 A11
      go_wp2_with fail
      have BD := (Below.refl (w11.alloc (.cells #[.int .i64 (ln.p : Int), .slice ta qn tc] 85)).heap.size (w11.alloc (.cells #[.int .i64 (ln.p : Int), .slice ta qn tc] 85))).drew
      have A13a := Lib.hid (blk_step A12.out BD)
      have T13a := Lib.hid (blk_step T12.out BD)
      have N13a := Lib.hid (blk_step N12.out BD)
      have M13a := Lib.hid (M12.out.low BD)
      have W13a := Lib.hid (W12.out.trans (BD.mono W12.out.size))
      have PV13a := Lib.hid (PV12.out.below BD)
      have TV13a := Lib.hid (TV12.out.below BD)
      clear BD M12 W12 PV12 TV12 N12 A12 T12
      have nM := Lib.hid (show ¬ MS m S4 w7.heap.size from fun h => by have := MLT.out _ h; omega)
      have nW := Lib.hid (show w2.heap.size ≤ w7.heap.size from WLT.out)
      refine anyH_region (fun w' => w'.rangeAt w9.heap.size 0 [.int .i64 (ln.s : Int), .int .i64 (ln.c : Int), .slice pa pn pc] ∧ w'.rangeAt w11.heap.size 0 [.int .i64 (ln.p : Int), .slice ta qn tc]) (by kernel_rfl) ?_
      obtain ⟨q0, hq0⟩ : ∃ W, W = (w11.alloc (.cells #[.int .i64 (ln.p : Int), .slice ta qn tc] 85)).drew := ⟨_, rfl⟩
      rw [← hq0] at A13a T13a N13a M13a W13a PV13a TV13a ⊢
      clear hq0
      have SD := Lib.hid (show (fun w' => w'.rangeAt w9.heap.size 0 [.int .i64 (ln.s : Int), .int .i64 (ln.c : Int), .slice pa pn pc] ∧ w'.rangeAt w11.heap.size 0 [.int .i64 (ln.p : Int), .slice ta qn tc]) q0 from ⟨blk_rng A13a.out, blk_rng T13a.out⟩)
      refine wpAnyH_take (i := 0) (oi := ⟨some 92, _, _, _, _, _⟩) (v := .agg ([.int .i64 (ln.s : Int), .int .i64 (ln.c : Int), .slice pa pn pc] : List Value).toArray) rfl (by kernel_rfl) (by kernel_rfl) (by kernel_rfl) (fun _ _ _ h => h) (yieldsIf_load_mid (by rfl) 82 (.tmp 14) rfl w9.heap.size 0 rfl [.int .i64 (ln.s : Int), .int .i64 (ln.c : Int), .slice pa pn pc] _ (fun w h => h.1) Tryd.underlying82 rfl (by kernel_rfl)) SD.out ?resta0
      simp only [Act.put, List.setIfInBounds_toArray, List.set_cons_zero, List.set_cons_succ]
      refine wpAnyH_take (i := 1) (oi := ⟨some 93, _, _, _, _, _⟩) (v := .agg ([.int .i64 (ln.p : Int), .slice ta qn tc] : List Value).toArray) rfl (by kernel_rfl) (by kernel_rfl) (by kernel_rfl) (fun _ _ _ h => h) (yieldsIf_load_mid (by rfl) 85 (.tmp 17) rfl w11.heap.size 0 rfl [.int .i64 (ln.p : Int), .slice ta qn tc] _ (fun w h => h.2) Tryd.underlying85 rfl (by kernel_rfl)) SD.out ?resta1
      simp only [Act.put, List.setIfInBounds_toArray, List.set_cons_zero, List.set_cons_succ]
      refine wpAnyH_take (i := 2) (oi := ⟨some 94, _, _, _, _, _⟩) (v := ?va2) rfl (by kernel_rfl) (by kernel_rfl) (by kernel_rfl) (fun _ _ _ h => h) (Or.inl ⟨by rfl, ?hya2⟩) SD.out ?resta2
      case hya2 => (intro w hSw; go_simp; try (with_reducible rfl))
      simp only [Act.put, List.setIfInBounds_toArray, List.set_cons_zero, List.set_cons_succ]
      have ks := Kept.setCells ([.int .i64 (ln.s : Int), .int .i64 (ln.c : Int), .slice pa pn pc] : List Value) 6 q0 (Kept.refl (fun x => x = w7.heap.size) q0)
      have M13b := Lib.hid (M13a.out.keep ks (fun j hj e => nM.out (e ▸ hj)))
      have W13b := Lib.hid (below_setCells (b := w7.heap.size) nW.out ([.int .i64 (ln.s : Int), .int .i64 (ln.c : Int), .slice pa pn pc] : List Value) 6 _ W13a.out)
      have PV13b := Lib.hid (PV13a.out.kept ks (PV13a.out.offT N13a.out (by decide)))
      have TV13b := Lib.hid (TV13a.out.kept ks (TV13a.out.offT N13a.out (by decide)))
      have A13b := Lib.hid ((ks.block _ (Array.getElem?_eq_some_iff.1 A13a.out).1 (by have := S9.out; have := S11.out; omega)).trans A13a.out)
      have T13b := Lib.hid ((ks.block _ (Array.getElem?_eq_some_iff.1 T13a.out).1 (by have := S9.out; have := S11.out; omega)).trans T13a.out)
      have N13b := Lib.hid (show (World.setCells q0 w7.heap.size 6 ([.int .i64 (ln.s : Int), .int .i64 (ln.c : Int), .slice pa pn pc] : List Value).toArray.toList).heap[w7.heap.size]? = some (mrObj ln (.int .i64 (ln.s : Int)) (.int .i64 (ln.c : Int)) (.slice pa pn pc) (.int .i64 (ln.p : Int)) (.slice va tn vc) (.int .i64 (Ck.new ln.t ln.c).n) (.int .i64 (Ck.new ln.t ln.c).l) (.slice cva cvn cvc)) from blk_set3 N13a.out 6 (.int .i64 (ln.s : Int)) (.int .i64 (ln.c : Int)) (.slice pa pn pc))
      clear ks
      refine anyH_one (i := 3) (o := ⟨none, _, _, _, _, _⟩) (by kernel_rfl) rfl (fun K hK => ?_)
      rw [if_pos (by rfl)]
      refine wp_store_mid 82 (.tmp 94) (.tmp 92) rfl w7.heap.size 6 ([.int .i64 (ln.s : Int), .int .i64 (ln.c : Int), .slice pa pn pc] : List Value).toArray rfl rfl (blk_thereAt N13a.out 6 3 (by simp)) (by kernel_rfl) (all_oneCell_toArray (fun u h => by simp at h; rcases h with h | h | h <;> subst h <;> rfl)) ?_
      refine hK.out _ _ ⟨blk_rng A13b.out, blk_rng T13b.out⟩ ?_
      clear hK K
      try simp only [Act.put]
      refine wpAnyH_take (i := 4) (oi := ⟨some 95, _, _, _, _, _⟩) (v := ?va4) rfl (by kernel_rfl) (by kernel_rfl) (by kernel_rfl) (fun _ _ _ h => h) (Or.inl ⟨by rfl, ?hya4⟩) ⟨blk_rng A13b.out, blk_rng T13b.out⟩ ?resta4
      case hya4 => (intro w hSw; go_simp; try (with_reducible rfl))
      simp only [Act.put, List.setIfInBounds_toArray, List.set_cons_zero, List.set_cons_succ]
      have ks := Kept.setCells ([.int .i64 (ln.p : Int), .slice ta qn tc] : List Value) 9 (World.setCells q0 w7.heap.size 6 ([.int .i64 (ln.s : Int), .int .i64 (ln.c : Int), .slice pa pn pc] : List Value).toArray.toList) (Kept.refl (fun x => x = w7.heap.size) (World.setCells q0 w7.heap.size 6 ([.int .i64 (ln.s : Int), .int .i64 (ln.c : Int), .slice pa pn pc] : List Value).toArray.toList))
      have M13 := Lib.hid (M13b.out.keep ks (fun j hj e => nM.out (e ▸ hj)))
      have W13 := Lib.hid (below_setCells (b := w7.heap.size) nW.out ([.int .i64 (ln.p : Int), .slice ta qn tc] : List Value) 9 _ W13b.out)
      have PV13 := Lib.hid (PV13b.out.kept ks (PV13b.out.offT N13b.out (by decide)))
      have TV13 := Lib.hid (TV13b.out.kept ks (TV13b.out.offT N13b.out (by decide)))
      have A13 := Lib.hid ((ks.block _ (Array.getElem?_eq_some_iff.1 A13b.out).1 (by have := S9.out; have := S11.out; omega)).trans A13b.out)
      have T13 := Lib.hid ((ks.block _ (Array.getElem?_eq_some_iff.1 T13b.out).1 (by have := S9.out; have := S11.out; omega)).trans T13b.out)
      have N13 := Lib.hid (show (World.setCells (World.setCells q0 w7.heap.size 6 ([.int .i64 (ln.s : Int), .int .i64 (ln.c : Int), .slice pa pn pc] : List Value).toArray.toList) w7.heap.size 9 ([.int .i64 (ln.p : Int), .slice ta qn tc] : List Value).toArray.toList).heap[w7.heap.size]? = some (mrObj ln (.int .i64 (ln.s : Int)) (.int .i64 (ln.c : Int)) (.slice pa pn pc) (.int .i64 (ln.p : Int)) (.slice ta qn tc) (.int .i64 (Ck.new ln.t ln.c).n) (.int .i64 (Ck.new ln.t ln.c).l) (.slice cva cvn cvc)) from blk_set2 N13b.out 9 (.int .i64 (ln.p : Int)) (.slice ta qn tc))
      clear ks
      refine anyH_one (i := 5) (o := ⟨none, _, _, _, _, _⟩) (by kernel_rfl) rfl (fun K hK => ?_)
      rw [if_pos (by rfl)]
      refine wp_store_mid 85 (.tmp 95) (.tmp 93) rfl w7.heap.size 9 ([.int .i64 (ln.p : Int), .slice ta qn tc] : List Value).toArray rfl rfl (blk_thereAt N13b.out 9 2 (by simp)) (by kernel_rfl) (all_oneCell_toArray (fun u h => by simp at h; rcases h with h | h <;> subst h <;> rfl)) ?_
      refine hK.out _ _ ⟨blk_rng A13.out, blk_rng T13.out⟩ ?_
      clear hK K
      try simp only [Act.put]
      clear M13a M13b W13a W13b PV13a PV13b TV13a TV13b A13a A13b A13 T13a T13b T13 N13a N13b
      refine wpAnyH_done (by kernel_rfl) ?_ _
      generalize hG : World.setCells (World.setCells _ _ _ _) _ _ _ = w13 at *
      clear hG
      have b14 := alloc_below0 w13 (.cells #[.int .i64 0, .int .i64 page] 3)
      have M14 := Lib.hid (M13.out.low b14)
      have W14 := Lib.hid (W13.out.trans (b14.mono W13.out.size))
      have PV14 := Lib.hid (PV13.out.below b14)
      have TV14 := Lib.hid (TV13.out.below b14)
      have N14 := Lib.hid (blk_step N13.out b14)
      have I14 := Lib.hid (blk_new w13 (.cells #[.int .i64 0, .int .i64 page] 3))
      have B14 := Lib.hid (B2.out.trans (W14.out.mono B2.out.size))
      have G14 := Lib.hid (show Fl.Glob (w13.alloc (.cells #[.int .i64 0, .int .i64 page] 3)) from by
        have hb := G2.out
        unfold Fl.Glob at hb ⊢
        exact (W14.out.cell (p := ⟨0, 0, none⟩) (lt_of_cell hb)).trans hb)
      clear b14 M13 W13 PV13 TV13 N13 SD
      go_wp2_with fail
      go_loopg [99] 2 (fun g v wr => ∃ k : Nat, k + g = 2 ∧ v = .int .i64 k ∧ Below (w13.alloc (.cells #[.int .i64 0, .int .i64 page] 3)).heap.size (w13.alloc (.cells #[.int .i64 0, .int .i64 page] 3)) wr)
      case atStart => exact ⟨0, by omega, rfl, Below.refl _ _⟩
      case round =>
        obtain ⟨k, hk, rfl, hB⟩ := hrel
        have HK := Lib.hid hk
        have BR := Lib.hid hB
        clear hB
        by_cases hlt : k < 2
        · obtain ⟨pp, hpp⟩ : ∃ pp, wr.cell? ⟨w13.heap.size, k, none⟩ = some (.int .i64 pp) := by
            rcases (show k = 0 ∨ k = 1 by omega) with rfl | rfl
            · exact ⟨_, cell_step (blk_cell I14.out 0) BR.out⟩
            · exact ⟨_, cell_step (blk_cell I14.out 1) BR.out⟩
          have MR := Lib.hid (M14.out.low BR.out)
          have j1 : (0 : Int) ≤ (k : Int) := by omega
          have j2 : (k : Int) < 2 := by omega
          have i1 : IntKind.i64.wrap ((k : Int) + 1) = (k : Int) + 1 := Go.IntWalk.i64_in _ (by omega)
          have fch := fun w h => chain_any w m S4 ln k6 (psB ++ [⟨2, 1, (⟨(⟨2, ⟨#[]⟩, ⟨#[]⟩, false, 0, ⟨#[]⟩, ⟨#[]⟩, 0, 0, 0, ⟨#[]⟩, ns, ng⟩ : Sc), [], []⟩ : RecD), true⟩]) (pgs2 ln.p) (Ck.new ln.t ln.c) pp h
          go_wp2_with fail
          refine (fch _ MR.out).mono ?_
          rintro ev w15 ⟨v1, v2, v3, ds, rfl, hds, ho1, ho2, he, hs⟩
          have BR2 := Lib.hid (BR.out.trans (hs.mono BR.out.size))
          have n_ := blk_step N14.out BR2.out
          have PV15 := Lib.hid (PV14.out.below BR2.out)
          have TV15 := Lib.hid (TV14.out.below BR2.out)
          have O1 := Lib.hid ho1
          have O2 := Lib.hid ho2
          have E1 := Lib.hid he
          clear hs ho1 ho2 he fch hpp MR
          have frc := fun w h1 h2 => rChain_any ln OK.out (.slice pa pn pc) (.slice ta qn tc) (.slice cva cvn cvc) us2 ups2 (Ck.new ln.t ln.c) (psB ++ [⟨2, 1, (⟨(⟨2, ⟨#[]⟩, ⟨#[]⟩, false, 0, ⟨#[]⟩, ⟨#[]⟩, 0, 0, 0, ⟨#[]⟩, ns, ng⟩ : Sc), [], []⟩ : RecD), true⟩]) (pgs2 ln.p) pp w h1 PN.out.1 PN.out.2 h2 RK.out (by have := OK.out.p1; simp [pgs2, pages0]; omega)
          unfold memR at frc
          have N15 := Lib.hid n_
          have u_0 := blk_cell n_ 0
          have u_1 := blk_cell n_ 1
          have u_2 := blk_cell n_ 2
          have u_3 := blk_cell n_ 3
          have u_4 := blk_cell n_ 4
          have u_5 := blk_cell n_ 5
          have u_6 := blk_cell n_ 6
          have u_7 := blk_cell n_ 7
          have u_8 := blk_cell n_ 8
          have u_9 := blk_cell n_ 9
          have u_10 := blk_cell n_ 10
          have u_11 := blk_cell n_ 11
          have u_12 := blk_cell n_ 12
          have u_13 := blk_cell n_ 13
          have u_14 := blk_cell n_ 14
          simp at u_0 u_1 u_2 u_3 u_4 u_5 u_6 u_7 u_8 u_9 u_10 u_11 u_12 u_13 u_14
          clear n_
          go_wp2_with fail
          refine (frc _ PV15.out TV15.out).mono ?_
          rintro ev w16 ⟨x1, x2, es, rfl, hes, hp1, hp2, hs⟩
          have BR3 := Lib.hid (BR2.out.trans (hs.mono BR2.out.size))
          have O12 := Lib.hid (O1.out.below hs)
          have O22 := Lib.hid (O2.out.below hs)
          have E2 := Lib.hid (E1.out.below hs)
          have P1 := Lib.hid hp1
          have P2 := Lib.hid hp2
          clear hs hp1 hp2 frc u_0 u_1 u_2 u_3 u_4 u_5 u_6 u_7 u_8 u_9 u_10 u_11 u_12 u_13 u_14 O1 O2 E1
          obtain ⟨r, hr⟩ : ∃ r, chM ln.s (psB ++ [⟨2, 1, (⟨(⟨2, ⟨#[]⟩, ⟨#[]⟩, false, 0, ⟨#[]⟩, ⟨#[]⟩, 0, 0, 0, ⟨#[]⟩, ns, ng⟩ : Sc), [], []⟩ : RecD), true⟩]) (pgs2 ln.p) pp = r := ⟨_, rfl⟩
          rw [hr] at hds hes O22 E2 P2 ⊢
          clear hr
          obtain ⟨l1, e⟩ := r
          simp only at hds hes O22 E2 P2 ⊢
          have h1 : ds.length = l1.length := by have := congrArg List.length hds; simpa using this
          have h2 : es.length = l1.length := by have := congrArg List.length hes; simpa using this
          obtain ⟨aa, ac, rfl, -, -⟩ := O12.out.lenN h1
          obtain ⟨ba, bc, rfl, -, -⟩ := P1.out.lenN h2
          obtain ⟨n, hn⟩ : ∃ n, l1.length = n := ⟨_, rfl⟩
          rw [hn]
          clear h1 h2 hds hes hn
          have GR := Lib.hid (Fl.Glob.below BR3.out G14.out)
          go_wp2_with fail
          refine (rf_same v2 x2 (l1.map Prod.snd) _ O22.out.sv P2.out.sv).mono ?_
          rintro ev w17 ⟨rfl, hs⟩
          have BR4 := Lib.hid (BR3.out.trans (hs.mono BR3.out.size))
          have E3 := Lib.hid (E2.out.below hs)
          have GR2 := Lib.hid (Fl.Glob.below hs GR.out)
          clear hs
          go_wp2_with fail
          refine (code_errF v3 e _ E3.out GR2.out).mono ?_
          rintro ev w18 ⟨rfl, hs⟩
          have BR5 := Lib.hid (BR4.out.trans (hs.mono BR4.out.size))
          have EF := E3.out.form
          clear hs
          have ee : (e != e) = false := by simp
          rcases EF with ⟨rfl, rfl⟩ | ⟨he0, t, x, rfl⟩
          · go_wp2
            go_roundg (2 - (k + 1))
            case measure => have := HK.out; omega
            case rel => exact ⟨k + 1, by omega, by go_num, BR5.out⟩
          · have e0 : (e == 0) = false := by rw [beq_eq_false_iff_ne]; exact he0
            clear he0
            go_wp2
            go_roundg (2 - (k + 1))
            case measure => have := HK.out; omega
            case rel => exact ⟨k + 1, by omega, by go_num, BR5.out⟩
        · go_wp2_with fail
          refine (awakeMm _).mono ?_
          rintro ev w15 ⟨rfl, hs⟩
          have BF := Lib.hid (B14.out.trans ((BR.out.trans (hs.mono BR.out.size)).mono B14.out.size))
          clear hs
          go_wp2
          go_ret
          exact ⟨rfl, BF.out⟩
end Go.Proofs.YtkkmfacngmginaaDoor
