/- The document's own Chain (layer 9), by a contract. -/
import Derived.Test.YtkkmfacngmginaaDoorMmRefN
namespace Go.Proofs.YtkkmfacngmginaaDoor
open Go.RowKit

/-- what the document's Chain answers -/
def RChainOf (w : World) (r : List (Sc × Rf) × Int) (ev : Ending) (w' : World) : Prop :=
  ∃ v1 v2 ds, ev = .returned (.tuple #[v1, v2, .int .i64 r.2]) ∧ ds.map RcL.sc = r.1.map Prod.fst ∧ OwnS lRec w.heap.size w' v1 ds ∧ OwnS lRef w.heap.size w' v2 (r.1.map Prod.snd) ∧ Below w.heap.size w w'
theorem RChainOf.none {w w' : World} {r : List (Sc × Rf) × Int} {e : Int} (h1 : r.1 = []) (h2 : r.2 = e) (hs : Below w.heap.size w w') : RChainOf w r (.returned (.tuple #[.slice none 0 0, .slice none 0 0, .int .i64 e])) w' :=
  ⟨_, _, [], by rw [h2], by rw [h1]; rfl, OwnS.nil _ _ _, by rw [h1]; exact OwnS.nil _ _ _, hs⟩
set_option maxRecDepth 100000 in
set_option maxHeartbeats 8000000 in
theorem rChain_any (l : LimN) (h : l.ok) (pv tv cv : Value) (us : List PuD) (ups : List Up) (ck : Ck) (ps : List Pt) (L : List Pg) (p : Int) (w : World) (hp : OwnS lPut 0 w pv us) (hbu : Bare us) (hps : us.map PuD.pt = ps) (ht : OwnS lUp 0 w tv ups) (hr : RefOk ups L) (hL : L.length = l.p) :
    Calls Tryd.prog 36 #[memR l pv tv cv ck, .int .i64 p] w (RChainOf w (chM l.s ps L p)) := by
  obtain ⟨pa, pc, rfl, -, -⟩ := hp.sv.lenform
  obtain ⟨ta, tc, rfl, -, -⟩ := ht.sv.lenform
  have OKL := Lib.hid h
  have BU := Lib.hid (And.intro hbu hps)
  have RQ := Lib.hid (And.intro hr hL)
  obtain ⟨un, hun⟩ : ∃ n, us.length = n := ⟨_, rfl⟩
  obtain ⟨tn, htn⟩ : ∃ n, ups.length = n := ⟨_, rfl⟩
  rw [hun] at hp ⊢
  rw [htn] at ht ⊢
  obtain ⟨W0, hW0⟩ : ∃ W, W = w.alloc (mrObj l (.int .i64 (l.s : Int)) (.int .i64 (l.c : Int)) (.slice pa un pc) (.int .i64 (l.p : Int)) (.slice ta tn tc) (.int .i64 ck.n) (.int .i64 ck.l) cv) := ⟨_, rfl⟩
  have b0 : Below w.heap.size w W0 := by rw [hW0]; exact alloc_below0 _ _
  have B0 := Lib.hid b0
  have N0 := Lib.hid (show W0.heap[w.heap.size]? = some (mrObj l (.int .i64 (l.s : Int)) (.int .i64 (l.c : Int)) (.slice pa un pc) (.int .i64 (l.p : Int)) (.slice ta tn tc) (.int .i64 ck.n) (.int .i64 ck.l) cv) by rw [hW0]; exact blk_new _ _)
  have P0 := Lib.hid (hp.below b0)
  have T0 := Lib.hid (ht.below b0)
  have Z0 := Lib.hid (show W0.heap.size = w.heap.size + 1 by rw [hW0]; simp)
  have n_9 : W0.cell? ⟨w.heap.size, 9, none⟩ = some (.int .i64 (l.p : Int)) := blk_cell N0.out 9
  have n_10 : W0.cell? ⟨w.heap.size, 10, none⟩ = some (.slice ta tn tc) := blk_cell N0.out 10
  unfold mrObj at hW0
  clear h hbu hps hr hL hun htn hp ht b0
  have fh := fun w h => rf_head l.p (.slice ta tn tc) ups L p w h RQ.out.1 RQ.out.2
  unfold refT at fh
  unfold memR
  go_enter Tryd.func36, Tryd.ntmps36
  go_wp2_with fail
  rw [← hW0]
  clear hW0
  refine (fh _ T0.out.sv).mono ?_
  rintro ev w1 ⟨rfl, hs⟩
  have N1 := Lib.hid (blk_step N0.out hs)
  have P1 := Lib.hid (P0.out.below hs)
  have B1 := Lib.hid (B0.out.trans (hs.mono B0.out.size))
  have Z1 := Lib.hid (show w.heap.size < w1.heap.size by have := hs.size; have := Z0.out; omega)
  clear hs n_9 n_10 fh
  by_cases hc : codeT L p = 0
  · have HM := Lib.hid (show chM l.s ps L p = chGo l.s ps l.s (headT L p).1 (headT L p).2 by unfold chM; rw [if_neg (by rw [hc]; decide)])
    rw [hc]
    generalize (headT L p).1 = x at *
    generalize (headT L p).2 = y at *
    unfold refV
    have b2 := alloc_below0 w1 (.cells #[.int .i64 x, .int .i64 y] 30)
    have N2 := Lib.hid (blk_step N1.out b2)
    have P2 := Lib.hid (P1.out.below b2)
    have B2 := Lib.hid (B1.out.trans (b2.mono B1.out.size))
    have R2 := Lib.hid (RfB.mk (blk_new w1 (.cells #[.int .i64 x, .int .i64 y] 30)))
    clear b2 hc
    go_wp2_with fail
    go_loopg [9, 10] l.s (fun g v9 v10 wr => ∃ acc ds rs x y, (acc.length + g = l.s ∧ rs = acc.map Prod.snd) ∧ ds.map RcL.sc = acc.map Prod.fst ∧ OwnS lRec (w1.heap.size + 1) wr v9 ds ∧ OwnS lRef (w1.heap.size + 1) wr v10 rs ∧ RfB wr w1.heap.size x y ∧ wr.heap[w.heap.size]? = some (mrObj l (.int .i64 (l.s : Int)) (.int .i64 (l.c : Int)) (.slice pa un pc) (.int .i64 (l.p : Int)) (.slice ta tn tc) (.int .i64 ck.n) (.int .i64 ck.l) cv) ∧ OwnS lPut 0 wr (.slice pa un pc) us ∧ chM l.s ps L p = joinC acc (chGo l.s ps g x y) ∧ Below w.heap.size w wr)
    case atStart => exact ⟨[], [], [], x, y, by simp, rfl, OwnS.nil _ _ _, OwnS.nil _ _ _, R2.out, N2.out, P2.out, by rw [HM.out, joinC_nil _ (chGo_no _ _ _ _ _)], B2.out⟩
    case round =>
      clear HM R2 N2 P2 B2
      obtain ⟨acc, ds, rs, x, y, hl, hm, o1, o2, hR, hN, hP, hE, hB⟩ := hrel
      have c0 := hR.c0
      have c1 := hR.c1
      have R3 := Lib.hid hR
      have N3 := Lib.hid hN
      have P3 := Lib.hid hP
      have B3 := Lib.hid hB
      have E3 := Lib.hid hE
      have HL := Lib.hid hl
      have HMp := Lib.hid hm
      have O1 := Lib.hid o1
      have O2 := Lib.hid o2
      have s1 : wr.cell? ⟨w.heap.size, 0, none⟩ = some (.int .i64 (l.s : Int)) := blk_cell hN 0
      obtain ⟨a9, c9, rfl, -, -⟩ := o1.sv.lenform
      obtain ⟨a10, c10, rfl, -, -⟩ := o2.sv.lenform
      clear hR hN hP hE hB hm o1 o2 hl
      by_cases hz : x = 0 ∧ y = 0
      · obtain ⟨rfl, rfl⟩ := hz
        go_wp2
        refine bodyPost_ret (results_tmp3 rfl _ _ _) rfl ?_
        have e := E3.out
        rw [chGo_end] at e
        have e2 : chM l.s ps L p = (acc, 0) := by rw [e]; unfold joinC; simp
        rw [e2]
        have h1 := B1.out.size
        exact ⟨_, _, ds, rfl, HMp.out, O1.out.mono (by omega), by have o := O2.out.mono (b' := w.heap.size) (by omega); rw [HL.out.2] at o; simpa [HL.out.2] using o, B3.out⟩
      · have HZ := Lib.hid hz
        go_upto_region 6 with (fail)
        go_cut [30] from 23 to 31 (fun s30 wc => s30 = .bool true ∧ wc = wr)
        case first =>
          go_wp2
          all_goals (go_meet; case rel => exact ⟨by first | rfl | (have hy : y ≠ 0 := (fun e => HZ.out ⟨by first | assumption | omega | simp_all, e⟩); rw [show (y != 0) = true from by rw [bne_iff_ne]; exact hy]), rfl⟩)
        case rest =>
          obtain ⟨rfl, hwc⟩ := hcut
          subst hwc
          have hdl : ds.length = acc.length := by have := congrArg List.length HMp.out; simpa using this
          have hl := HL.out.1
          cases gk with
          | zero =>
            have h9 : ((ds.length : Int) == (l.s : Int)) = true := by rw [beq_iff_eq]; omega
            clear hl hdl
            go_wp2
            refine bodyPost_ret (results_tmp3 rfl _ _ _) rfl ?_
            have e := E3.out
            rw [chGo_zero HZ.out] at e
            have e2 : chM l.s ps L p = ([], 10) := by rw [e]; unfold joinC; simp
            rw [e2]
            exact RChainOf.none rfl rfl B3.out
          | succ g =>
            have h9 : ((ds.length : Int) == (l.s : Int)) = false := by rw [beq_eq_false_iff_ne]; omega
            clear hl hdl
            have n_6 : wc.cell? ⟨w.heap.size, 6, none⟩ = some (.int .i64 (l.s : Int)) := blk_cell N3.out 6
            have n_7 : wc.cell? ⟨w.heap.size, 7, none⟩ = some (.int .i64 (l.c : Int)) := blk_cell N3.out 7
            have n_8 : wc.cell? ⟨w.heap.size, 8, none⟩ = some (.slice pa un pc) := blk_cell N3.out 8
            have fc := fun w' h => rf_load l.s l.c (.slice pa un pc) us x y w' h
            rw [BU.out.2] at fc
            unfold refV refA at fc
            go_wp2_with fail
            refine (fc _ (BU.out.1.puts P3.out)).mono ?_
            rintro ev w4 ⟨rv, en, rfl, hrv, hen, hs⟩
            obtain ⟨ra, rc, rfl, -, -⟩ := hrv.lenform
            obtain ⟨ea, ec, rfl, -, -⟩ := hen.lenform
            generalize (loadM l.s ps x y).rows.length = nr at *
            generalize (loadM l.s ps x y).ents.length = ne at *
            have N4 := Lib.hid (blk_step N3.out hs)
            have P4 := Lib.hid (P3.out.below hs)
            have B4 := Lib.hid (B3.out.trans (hs.mono B3.out.size))
            have R4 := Lib.hid (R3.out.step hs)
            have O14 := Lib.hid (O1.out.below hs)
            have O24 := Lib.hid (O2.out.below hs)
            have S4 := Lib.hid hs.size
            clear hs hrv hen c0 c1 s1 n_6 n_7 n_8 fc
            unfold recVal
            have EJ := Lib.hid (fun hcd => joinC_step acc HZ.out hcd (f := g) (n := l.s) (ps := ps))
            have ER := Lib.hid (fun hcd => chGo_err (f := g) (n := l.s) (ps := ps) HZ.out hcd)
            obtain ⟨sc, hsc⟩ : ∃ s, (loadM l.s ps x y).sc = s := ⟨_, rfl⟩
            rw [hsc] at EJ ⊢
            clear hsc
            have bz := alloc_below0 w4 (.cells #[.int .i64 sc.kind, .string sc.low, .string sc.high, .bool sc.unb, .int .i64 sc.right, .slice ra nr rc, .slice ea ne ec, .string sc.key, .string sc.value, .int .i64 sc.page, .int .i64 sc.hp, .int .i64 sc.hl, .string sc.hk, .int .i64 sc.ns, .int .i64 sc.ng] 32)
            have N5 := Lib.hid (blk_step N4.out bz)
            have P5 := Lib.hid (P4.out.below bz)
            have B5 := Lib.hid (B4.out.trans (bz.mono B4.out.size))
            have R5 := Lib.hid (R4.out.step bz)
            have O15 := Lib.hid (O14.out.below bz)
            have O25 := Lib.hid (O24.out.below bz)
            have K5 := Lib.hid (blk_new w4 (.cells #[.int .i64 sc.kind, .string sc.low, .string sc.high, .bool sc.unb, .int .i64 sc.right, .slice ra nr rc, .slice ea ne ec, .string sc.key, .string sc.value, .int .i64 sc.page, .int .i64 sc.hp, .int .i64 sc.hl, .string sc.hk, .int .i64 sc.ns, .int .i64 sc.ng] 32))
            have BO := Lib.hid O14.out.bounds
            have BP := Lib.hid O24.out.bounds
            clear bz
            by_cases hcd : codeM l.s ps x y = 0
            · rw [hcd]
              have EK := Lib.hid (EJ.out hcd)
              clear EJ ER hcd
              have c0 := R5.out.c0
              have c1 := R5.out.c1
              have SR := Lib.hid (show OwnS lRec 0 ((w4.alloc (.cells #[.int .i64 sc.kind, .string sc.low, .string sc.high, .bool sc.unb, .int .i64 sc.right, .slice ra nr rc, .slice ea ne ec, .string sc.key, .string sc.value, .int .i64 sc.page, .int .i64 sc.hp, .int .i64 sc.hl, .string sc.hk, .int .i64 sc.ns, .int .i64 sc.ng] 32)).alloc (.cells #[.int .i64 sc.kind, .string sc.low, .string sc.high, .bool sc.unb, .int .i64 sc.right, .slice ra nr rc, .slice ea ne ec, .string sc.key, .string sc.value, .int .i64 sc.page, .int .i64 sc.hp, .int .i64 sc.hl, .string sc.hk, .int .i64 sc.ns, .int .i64 sc.ng] 32)) (.slice (some ⟨w4.heap.size + 1, 0, none⟩) 1 1) [(⟨sc, ra, nr, rc, ea, ne, ec⟩ : RcL)] from OwnS.lit lRec 0 (w4.alloc (.cells #[.int .i64 sc.kind, .string sc.low, .string sc.high, .bool sc.unb, .int .i64 sc.right, .slice ra nr rc, .slice ea ne ec, .string sc.key, .string sc.value, .int .i64 sc.page, .int .i64 sc.hp, .int .i64 sc.hl, .string sc.hk, .int .i64 sc.ns, .int .i64 sc.ng] 32)) (w4.heap.size + 1) (by simp) [(⟨sc, ra, nr, rc, ea, ne, ec⟩ : RcL)] (Nat.zero_le _) (by unfold maxLen; simp))
              have by2 := alloc_below0 (w4.alloc (.cells #[.int .i64 sc.kind, .string sc.low, .string sc.high, .bool sc.unb, .int .i64 sc.right, .slice ra nr rc, .slice ea ne ec, .string sc.key, .string sc.value, .int .i64 sc.page, .int .i64 sc.hp, .int .i64 sc.hl, .string sc.hk, .int .i64 sc.ns, .int .i64 sc.ng] 32)) (.cells #[.int .i64 sc.kind, .string sc.low, .string sc.high, .bool sc.unb, .int .i64 sc.right, .slice ra nr rc, .slice ea ne ec, .string sc.key, .string sc.value, .int .i64 sc.page, .int .i64 sc.hp, .int .i64 sc.hl, .string sc.hk, .int .i64 sc.ns, .int .i64 sc.ng] 32)
              have N6 := Lib.hid (blk_step N5.out by2)
              have P6 := Lib.hid (P5.out.below by2)
              have B6 := Lib.hid (B5.out.trans (by2.mono B5.out.size))
              have R6 := Lib.hid (R5.out.step by2)
              have O16 := Lib.hid (O15.out.below by2)
              have O26 := Lib.hid (O25.out.below by2)
              have K6 := Lib.hid (blk_step K5.out by2)
              clear by2
              have h15 : ds.length + 1 ≤ 100000 := by have := OKL.out.s2; have := HL.out.1; have h9 : ds.length = acc.length := (by have := congrArg List.length HMp.out; simpa using this); omega
              have H15 := Lib.hid h15
              have Z6 := Lib.hid (show w1.heap.size + 1 ≤ ((w4.alloc (.cells #[.int .i64 sc.kind, .string sc.low, .string sc.high, .bool sc.unb, .int .i64 sc.right, .slice ra nr rc, .slice ea ne ec, .string sc.key, .string sc.value, .int .i64 sc.page, .int .i64 sc.hp, .int .i64 sc.hl, .string sc.hk, .int .i64 sc.ns, .int .i64 sc.ng] 32)).alloc (.cells #[.int .i64 sc.kind, .string sc.low, .string sc.high, .bool sc.unb, .int .i64 sc.right, .slice ra nr rc, .slice ea ne ec, .string sc.key, .string sc.value, .int .i64 sc.page, .int .i64 sc.hp, .int .i64 sc.hl, .string sc.hk, .int .i64 sc.ns, .int .i64 sc.ng] 32)).heap.size by have := R6.out.lt; omega)
              have H16 := Lib.hid (show rs.length + 1 ≤ 100000 by have h1 := H15.out; have h2 := HL.out.2; have h3 : ds.length = acc.length := (by have := congrArg List.length HMp.out; simpa using this); rw [h2, List.length_map]; omega)
              have HB := Lib.hid (show wc.heap.size ≤ w4.heap.size from S4.out)
              clear h15
              go_wp2_with (first | (refine wpList_appS lRec 34 Tryd.underlying34 lRec_known (by decide) (by decide) rfl (.tmp 47) (.tmp 49) rfl (w1.heap.size + 1) rfl rfl O16.out SR.out.sv (by have := H15.out; simpa using this) Z6.out ?_; intro v7 w7 ho7 hg7; (have N7 := Lib.hid ((hg7.block _ (Array.getElem?_eq_some_iff.1 N6.out).1 (fun hs => by have h2 := (O16.out.bounds _ hs.symm).1; have := Z1.out; omega)).trans N6.out)); (have P7 := Lib.hid (P6.out.kept (Kept.of_grown hg7) (fun a n c hv hs => (O16.out.neB P6.out (by decide)) a n c hv hs.symm))); (have R7 := Lib.hid (R6.out.keep (Kept.of_grown hg7) (fun hs => by have h2 := (O16.out.bounds _ hs.symm).1; omega))); (have O27 := Lib.hid (O26.out.kept (Kept.of_grown hg7) (fun a n c hv hs => (O16.out.neB O26.out (by decide)) a n c hv hs.symm))); (have K7 := Lib.hid ((hg7.block _ (Array.getElem?_eq_some_iff.1 K6.out).1 (fun hs => by have h2 := (BO.out _ hs.symm).2; omega)).trans K6.out)); (have B7 := Lib.hid (ep_grown_below B6.out (O16.out.mono (b' := w.heap.size) (by have := B1.out.size; omega)) hg7 B6.out.size)); (have O17 := Lib.hid ho7); clear c0 c1; have c0 := R7.out.c0; have c1 := R7.out.c1; clear ho7 hg7; have b8 := alloc_below0 w7 (.cells #[.int .i64 x, .int .i64 y] 30); have N8 := Lib.hid (blk_step N7.out b8); have P8 := Lib.hid (P7.out.below b8); have R8 := Lib.hid (R7.out.step b8); have O18 := Lib.hid (O17.out.below b8); have O28 := Lib.hid (O27.out.below b8); have K8 := Lib.hid (blk_step K7.out b8); have B8 := Lib.hid (B7.out.trans (b8.mono B7.out.size)); have SX := Lib.hid (show OwnS lRef 0 (w7.alloc (.cells #[.int .i64 x, .int .i64 y] 30)) (.slice (some ⟨w7.heap.size, 0, none⟩) 1 1) [((x, y) : Rf)] from OwnS.lit lRef 0 w7 w7.heap.size rfl [(x, y)] (Nat.zero_le _) (by unfold maxLen; simp)); clear b8) | (refine wpList_appS lRef 96 Tryd.underlying96 lRef_known (by decide) (by decide) rfl (.tmp 51) (.tmp 53) rfl (w1.heap.size + 1) rfl rfl O28.out SX.out.sv (by have := H16.out; simpa using this) (by have := R8.out.lt; omega) ?_; intro v9 w9 ho9 hg9; (have N9 := Lib.hid ((hg9.block _ (Array.getElem?_eq_some_iff.1 N8.out).1 (fun hs => by have h2 := (O28.out.bounds _ hs.symm).1; have := Z1.out; omega)).trans N8.out)); (have P9 := Lib.hid (P8.out.kept (Kept.of_grown hg9) (fun a n c hv hs => (O28.out.neB P8.out (by decide)) a n c hv hs.symm))); (have R9 := Lib.hid (R8.out.keep (Kept.of_grown hg9) (fun hs => by have h2 := (O28.out.bounds _ hs.symm).1; omega))); (have O19 := Lib.hid (O18.out.kept (Kept.of_grown hg9) (fun a n c hv hs => (O28.out.neB O18.out (by decide)) a n c hv hs.symm))); (have K9 := Lib.hid ((hg9.block _ (Array.getElem?_eq_some_iff.1 K8.out).1 (fun hs => by have h2 := (BP.out _ hs.symm).2; omega)).trans K8.out)); (have B9 := Lib.hid (ep_grown_below B8.out (O28.out.mono (b' := w.heap.size) (by have := B1.out.size; omega)) hg9 B8.out.size)); (have O29 := Lib.hid ho9); clear ho9 hg9 c0 c1; (have e0 : w9.cell? ⟨w4.heap.size, 13, none⟩ = some (.int .i64 sc.ns) := blk_cell K9.out 13); (have e1 : w9.cell? ⟨w4.heap.size, 14, none⟩ = some (.int .i64 sc.ng) := blk_cell K9.out 14); obtain ⟨f0, f1, f2, f3, f4⟩ := two_facts R9.out.blk (.int .i64 sc.ns) (.int .i64 sc.ng); (have R10 := Lib.hid f4); clear f4))
              go_roundg g
              case measure => omega
              case rel =>
                have hK : Kept (fun k => k = w1.heap.size) w9 ((w9.setCell ⟨w1.heap.size, 0, none⟩ (.int .i64 sc.ns)).setCell ⟨w1.heap.size, 1, none⟩ (.int .i64 sc.ng)) := ((Kept.refl _ w9).setCell _ _).setCell _ _
                have h1 := B1.out.size
                refine ⟨acc ++ [(sc, (x, y))], ds ++ [⟨sc, ra, nr, rc, ea, ne, ec⟩], rs ++ [(x, y)], sc.ns, sc.ng, ⟨?_, ?_⟩, ?_, ?_, ?_, ⟨R10.out⟩, ?_, ?_, ?_, ?_⟩
                · have := HL.out.1; rw [List.length_append]; simp only [List.length_cons, List.length_nil]; omega
                · rw [HL.out.2, List.map_append]; rfl
                · rw [List.map_append, List.map_append, HMp.out]; rfl
                · exact O19.out.kept hK (fun a n c hv hs => by have := (O19.out.bounds a.block (by rw [hv]; rfl)).1; omega)
                · exact O29.out.kept hK (fun a n c hv hs => by have := (O29.out.bounds a.block (by rw [hv]; rfl)).1; omega)
                · exact (hK.block _ (Array.getElem?_eq_some_iff.1 N9.out).1 (by have := Z1.out; omega)).trans N9.out
                · exact P9.out.kept hK (P9.out.offT R9.out.blk (by decide))
                · rw [E3.out, EK.out]
                · exact below_set (below_set B9.out h1 _ _) h1 _ _
            · have EK := Lib.hid (ER.out hcd)
              obtain ⟨z, hzc⟩ : ∃ z, codeM l.s ps x y = z := ⟨_, rfl⟩
              rw [hzc] at hcd EK ⊢
              have hcb : (z != 0) = true := by rw [bne_iff_ne]; exact hcd
              have HC := Lib.hid hcd
              clear EJ ER hcd hzc
              go_wp2
              refine bodyPost_ret (results_tmp3 rfl _ _ _) rfl ?_
              have e := E3.out
              rw [EK.out] at e
              have e2 : chM l.s ps L p = ([], z) := by rw [e]; unfold joinC; simp only [if_neg HC.out]
              rw [e2]
              exact RChainOf.none rfl rfl B5.out
  · have HM := Lib.hid (show chM l.s ps L p = ([], codeT L p) by unfold chM; rw [if_pos hc])
    obtain ⟨z, hzc⟩ : ∃ z, codeT L p = z := ⟨_, rfl⟩
    rw [hzc] at hc HM ⊢
    have hcb : (z != 0) = true := by rw [bne_iff_ne]; exact hc
    clear hc hzc
    generalize headT L p = hh at *
    obtain ⟨hx, hy⟩ := hh
    unfold refV
    have B2 := Lib.hid (B1.out.trans ((alloc_below0 w1 (.cells #[.int .i64 hx, .int .i64 hy] 30)).mono B1.out.size))
    go_wp2
    refine bodyPost_ret (results_tmp3 rfl _ _ _) rfl ?_
    rw [HM.out]
    exact RChainOf.none rfl rfl B2.out
end Go.Proofs.YtkkmfacngmginaaDoor
