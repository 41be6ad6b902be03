/- The program's Chain, by a contract, of records however they are. -/
import Derived.Test.YtejmdmaebkdjoaaGreatDoorPlStB
import Derived.Test.YtejmdmaebkdjoaaGreatDoorMmRefC
namespace Go.Proofs.YtejmdmaebkdjoaaGreatDoor
set_option linter.unusedVariables false
set_option linter.unusedSimpArgs false
set_option maxRecDepth 100000
set_option maxHeartbeats 8000000
open Go.RowKit
def chGoF (n : Nat) (ps : List Pt) : Nat → Int → Int → List (RecD × Rf) × Int
 | 0, x, y => if x = 0 ∧ y = 0 then ([], 0) else ([], 10)
 | f + 1, x, y => if x = 0 ∧ y = 0 then ([], 0) else if codeM n ps x y ≠ 0 then ([], codeM n ps x y) else
  if (chGoF n ps f (loadM n ps x y).sc.ns (loadM n ps x y).sc.ng).2 = 0 then ((loadM n ps x y, (x, y)) :: (chGoF n ps f (loadM n ps x y).sc.ns (loadM n ps x y).sc.ng).1, 0) else ([], (chGoF n ps f (loadM n ps x y).sc.ns (loadM n ps x y).sc.ng).2)
def joinCF (acc : List (RecD × Rf)) (r : List (RecD × Rf) × Int) : List (RecD × Rf) × Int := if r.2 = 0 then (acc ++ r.1, 0) else ([], r.2)
def chF (n : Nat) (ps : List Pt) (L : List Pg) (p : Int) : List (RecD × Rf) × Int := if codeT L p ≠ 0 then ([], codeT L p) else chGoF n ps n (headT L p).1 (headT L p).2
theorem chGoF_end (n : Nat) (ps : List Pt) (f : Nat) : chGoF n ps f 0 0 = ([], 0) := by cases f <;> rfl
theorem chGoF_zero {n : Nat} {ps : List Pt} {x y : Int} (h : ¬ (x = 0 ∧ y = 0)) : chGoF n ps 0 x y = ([], 10) := by unfold chGoF; rw [if_neg h]
theorem chGoF_err {n : Nat} {ps : List Pt} {f : Nat} {x y : Int} (h : ¬ (x = 0 ∧ y = 0)) (hc : codeM n ps x y ≠ 0) : chGoF n ps (f + 1) x y = ([], codeM n ps x y) := by unfold chGoF; rw [if_neg h, if_pos hc]
theorem joinCF_step {n : Nat} {ps : List Pt} {f : Nat} {x y : Int} (acc : List (RecD × Rf)) (h : ¬ (x = 0 ∧ y = 0)) (hc : codeM n ps x y = 0) : joinCF acc (chGoF n ps (f + 1) x y) = joinCF (acc ++ [(loadM n ps x y, (x, y))]) (chGoF n ps f (loadM n ps x y).sc.ns (loadM n ps x y).sc.ng) := by
 rw [chGoF, if_neg h, if_neg (by rw [hc]; decide)]
 unfold joinCF
 by_cases e : (chGoF n ps f (loadM n ps x y).sc.ns (loadM n ps x y).sc.ng).2 = 0
 ·rw [if_pos e, if_pos rfl, if_pos e, List.append_assoc]; rfl
 ·rw [if_neg e, if_neg e, if_neg e]
theorem joinCF_nil (r : List (RecD × Rf) × Int) (h : r.2 ≠ 0 → r.1 = []) : joinCF [] r = r := by
 unfold joinCF
 obtain ⟨a, b⟩ := r
 by_cases e : b = 0
 ·subst e; simp
 ·simp only [if_neg e]; rw [← h e]
theorem chGoF_no (n : Nat) (ps : List Pt) (f : Nat) (x y : Int) : (chGoF n ps f x y).2 ≠ 0 → (chGoF n ps f x y).1 = [] := by
 cases f with
 | zero => unfold chGoF; split <;> simp
 | succ f => rw [chGoF]; split; · simp
             split; · simp
             split <;> simp
def RdW (w0 : World) (ds : List RcL) (es : List RecD) : Prop := ds.length = es.length ∧ ∀ (j : Nat) (x : RcL) (e : RecD), ds[j]? = some x → es[j]? = some e → x.sc = e.sc ∧ SV lRow w0 (.slice x.ra x.rn x.rc) e.rows ∧ SV lEnt w0 (.slice x.ea x.en x.ec) e.ents
theorem RdW.nil (w0 : World) : RdW w0 [] [] := ⟨rfl, fun j x e h => by cases h⟩
theorem RdW.snoc {w0 : World} {ds : List RcL} {es : List RecD} (h : RdW w0 ds es) {x : RcL} {e : RecD} (hx : x.sc = e.sc ∧ SV lRow w0 (.slice x.ra x.rn x.rc) e.rows ∧ SV lEnt w0 (.slice x.ea x.en x.ec) e.ents) : RdW w0 (ds ++ [x]) (es ++ [e]) := by
 refine ⟨by rw [List.length_append, List.length_append, h.1]; rfl, fun j y f h1 h2 => ?_⟩
 by_cases hj : j < ds.length
 ·rw [List.getElem?_append_left hj] at h1
  rw [List.getElem?_append_left (by rw [← h.1]; exact hj)] at h2
  exact h.2 j y f h1 h2
 ·have hl : j < (ds ++ [x]).length := (List.getElem?_eq_some_iff.1 h1).1
  rw [List.length_append, List.length_cons, List.length_nil] at hl
  obtain rfl : j = ds.length := by omega
  rw [List.getElem?_append_right (Nat.le_refl _), Nat.sub_self] at h1
  rw [h.1, List.getElem?_append_right (Nat.le_refl _), Nat.sub_self] at h2
  obtain rfl := Option.some.inj h1
  obtain rfl := Option.some.inj h2
  exact hx
theorem OldR.read {w0 : World} {us : List PuD} {rv en : Value} {rows : List Rw} {ents : List En} (h : OldR us rv en rows ents) (hu : ∀ e ∈ us, SV lRow w0 e.rv e.rows ∧ SV lEnt w0 e.en e.ents) : SV lRow w0 rv rows ∧ SV lEnt w0 en ents := by
 rcases h with ⟨rfl, rfl, rfl, rfl⟩ | ⟨e, he, rfl, rfl, rfl, rfl⟩
 ·exact ⟨SV.nil _ _, SV.nil _ _⟩
 ·exact hu e he
def mrObjF (c0 : Value) (l : LimN) (x0 x1 pv y0 tv z0 z1 cv : Value) : Obj := .cells #[.int .i64 (l.s : Int), .int .i64 (l.p : Int), .int .i64 (l.t : Int), .int .i64 (l.r : Int), .int .i64 (l.h : Int), .int .i64 (l.c : Int), x0, x1, pv, y0, tv, z0, z1, cv, c0] 43
def RChainF (w0 w : World) (r : List (RecD × Rf) × Int) (ev : Ending) (w' : World) : Prop :=
 ∃ v1 v2 ds, ev = .returned (.tuple #[v1, v2, .int .i64 r.2]) ∧ RdW w0 ds (r.1.map Prod.fst) ∧ OwnS lRec w.heap.size w' v1 ds ∧ OwnS lRef w.heap.size w' v2 (r.1.map Prod.snd) ∧ Below w.heap.size w w'
theorem RChainF.none {w0 w w' : World} {r : List (RecD × Rf) × Int} {e : Int} (h1 : r.1 = []) (h2 : r.2 = e) (hs : Below w.heap.size w w') : RChainF w0 w r (.returned (.tuple #[.slice none 0 0, .slice none 0 0, .int .i64 e])) w' :=
 ⟨_, _, [], by rw [h2], by rw [h1]; exact RdW.nil w0, OwnS.nil _ _ _, by rw [h1]; exact OwnS.nil _ _ _, hs⟩
theorem rChainF {w0 w : World} {T : Nat → Prop} {X : DX} {Y : MX} {D : DI} {ps : List Pt} {L : List Pg} {us : List PuD} {ups : List Up} (hD : DocS w0 w T X Y D ps L us ups) (h : Y.l.ok) (p : Int) :
  Calls Tryz.prog 57 #[Y.val, .int .i64 p] w (RChainF w0 w (chF Y.l.s ps L p)) := by
 have PW := Lib.hid hD.puts
 have RW0 := Lib.hid hD.rc
 have BL0 := Lib.hid hD.bl
 have TW := Lib.hid (And.intro hD.tb (And.intro hD.rk hD.ln))
 have PM := Lib.hid hD.am
 clear hD
 obtain ⟨l, pa, un, pc, ta, tn, tc, cn, cl, ca, cm, cc, cnt⟩ := Y
 simp only at PW TW h ⊢
 have OKL := Lib.hid h
 obtain ⟨W0, hW0⟩ : ∃ W, W = w.alloc (mrObjF (.int .i64 cnt) l (.int .i64 (l.s : Int)) (.int .i64 (l.c : Int)) (.slice pa un pc) (.int .i64 (l.p : Int)) (.slice ta tn tc) (.int .i64 cn) (.int .i64 cl) (.slice ca cm cc)) := ⟨_, rfl⟩
 have b0 : Below w.heap.size w W0 := by rw [hW0]; exact alloc_below0 _ _
 have B0 := Lib.hid b0
 have N0 := Lib.hid (show W0.heap[w.heap.size]? = some (mrObjF (.int .i64 cnt) l (.int .i64 (l.s : Int)) (.int .i64 (l.c : Int)) (.slice pa un pc) (.int .i64 (l.p : Int)) (.slice ta tn tc) (.int .i64 cn) (.int .i64 cl) (.slice ca cm cc)) by rw [hW0]; exact blk_new _ _)
 have T0 := Lib.hid (TW.out.1.sv.below b0)
 have Z0 := Lib.hid (show W0.heap.size = w.heap.size + 1 by rw [hW0]; simp)
 have n_9 : W0.cell? ⟨w.heap.size, 9, none⟩ = some (.int .i64 (l.p : Int)) := blk_cell N0.out 9
 have n_10 : W0.cell? ⟨w.heap.size, 10, none⟩ = some (.slice ta tn tc) := blk_cell N0.out 10
 unfold mrObjF at hW0
 clear h b0
 have fh := fun w h => rf_head l.p (.slice ta tn tc) ups L p w h TW.out.2.1 TW.out.2.2
 unfold refT at fh
 unfold MX.val MX.list
 go_enter Tryz.func57, Tryz.ntmps57
 go_wp2_with fail
 rw [← hW0]
 clear hW0
 refine (fh _ T0.out).mono ?_
 rintro ev w1 ⟨rfl, hs⟩
 have N1 := Lib.hid (blk_step N0.out hs)
 have B1 := Lib.hid (B0.out.trans (hs.mono B0.out.size))
 have Z1 := Lib.hid (show w.heap.size < w1.heap.size by have := hs.size; have := Z0.out; omega)
 clear hs n_9 n_10 fh
 by_cases hc : codeT L p = 0
 ·have HM := Lib.hid (show chF l.s ps L p = chGoF l.s ps l.s (headT L p).1 (headT L p).2 by unfold chF; rw [if_neg (by rw [hc]; decide)])
  rw [hc]
  generalize (headT L p).1 = x at *
  generalize (headT L p).2 = y at *
  unfold refV
  have b2 := alloc_below0 w1 (.cells #[.int .i64 x, .int .i64 y] 48)
  have N2 := Lib.hid (blk_step N1.out b2)
  have B2 := Lib.hid (B1.out.trans (b2.mono B1.out.size))
  have R2 := Lib.hid (RfB.mk (blk_new w1 (.cells #[.int .i64 x, .int .i64 y] 48)))
  clear b2 hc
  go_wp2_with fail
  go_loopg [9, 10] l.s (fun g v9 v10 wr => ∃ acc ds rs x y, (acc.length + g = l.s ∧ rs = acc.map Prod.snd) ∧ RdW w0 ds (acc.map Prod.fst) ∧ OwnS lRec (w1.heap.size + 1) wr v9 ds ∧ OwnS lRef (w1.heap.size + 1) wr v10 rs ∧ RfB wr w1.heap.size x y ∧ wr.heap[w.heap.size]? = some (mrObjF (.int .i64 cnt) l (.int .i64 (l.s : Int)) (.int .i64 (l.c : Int)) (.slice pa un pc) (.int .i64 (l.p : Int)) (.slice ta tn tc) (.int .i64 cn) (.int .i64 cl) (.slice ca cm cc)) ∧ chF l.s ps L p = joinCF acc (chGoF l.s ps g x y) ∧ Below w.heap.size w wr)
  case atStart => exact ⟨[], [], [], x, y, by simp, RdW.nil w0, OwnS.nil _ _ _, OwnS.nil _ _ _, R2.out, N2.out, by rw [HM.out, joinCF_nil _ (chGoF_no _ _ _ _ _)], B2.out⟩
  case round =>
   clear HM R2 N2 B2
   obtain ⟨acc, ds, rs, x, y, hl, hm, o1, o2, hR, hN, hE, hB⟩ := hrel
   have c0 := hR.c0
   have c1 := hR.c1
   have R3 := Lib.hid hR
   have N3 := Lib.hid hN
   have P3 := Lib.hid (PW.out.below hB)
   have B3 := Lib.hid hB
   have E3 := Lib.hid hE
   have HL := Lib.hid hl
   have HMp := Lib.hid hm
   have O1 := Lib.hid o1
   have O2 := Lib.hid o2
   have s1 : wr.cell? ⟨w.heap.size, 0, none⟩ = some (.int .i64 (l.s : Int)) := blk_cell hN 0
   obtain ⟨a9, c9, rfl, -, -⟩ := o1.sv.lenform
   obtain ⟨a10, c10, rfl, -, -⟩ := o2.sv.lenform
   clear hR hN hE hB hm o1 o2 hl
   by_cases hz : x = 0 ∧ y = 0
   ·obtain ⟨rfl, rfl⟩ := hz
    go_wp2
    refine bodyPost_ret (results_tmp3 rfl _ _ _) rfl ?_
    have e := E3.out
    rw [chGoF_end] at e
    have e2 : chF l.s ps L p = (acc, 0) := by rw [e]; unfold joinCF; simp
    rw [e2]
    have h1 := B1.out.size
    exact ⟨_, _, ds, rfl, HMp.out, O1.out.mono (by omega), by have o := O2.out.mono (b' := w.heap.size) (by omega); rw [HL.out.2] at o; simpa [HL.out.2] using o, B3.out⟩
   ·have HZ := Lib.hid hz
    go_upto_region 6 with (fail)
    go_cut [30] from 23 to 31 (fun s30 wc => s30 = .bool true ∧ wc = wr)
    case first =>
     go_wp2
     all_goals (go_meet; case rel => exact ⟨by first | rfl | (have hy : y ≠ 0 := (fun e => HZ.out ⟨by first | assumption | omega | simp_all, e⟩); rw [show (y != 0) = true from by rw [bne_iff_ne]; exact hy]), rfl⟩)
    case rest =>
     obtain ⟨rfl, hwc⟩ := hcut
     subst hwc
     have hdl : ds.length = acc.length := by have := HMp.out.1; simpa using this
     have hl := HL.out.1
     cases gk with
     | zero =>
      have h9 : ((ds.length : Int) == (l.s : Int)) = true := by rw [beq_iff_eq]; omega
      clear hl hdl
      go_wp2
      refine bodyPost_ret (results_tmp3 rfl _ _ _) rfl ?_
      have e := E3.out
      rw [chGoF_zero HZ.out] at e
      have e2 : chF l.s ps L p = ([], 10) := by rw [e]; unfold joinCF; simp
      rw [e2]
      exact RChainF.none rfl rfl B3.out
     | succ g =>
      have h9 : ((ds.length : Int) == (l.s : Int)) = false := by rw [beq_eq_false_iff_ne]; omega
      clear hl hdl
      have n_6 : wc.cell? ⟨w.heap.size, 6, none⟩ = some (.int .i64 (l.s : Int)) := blk_cell N3.out 6
      have n_7 : wc.cell? ⟨w.heap.size, 7, none⟩ = some (.int .i64 (l.c : Int)) := blk_cell N3.out 7
      have n_8 : wc.cell? ⟨w.heap.size, 8, none⟩ = some (.slice pa un pc) := blk_cell N3.out 8
      have fc := fun w' h => rf_loadN l.s l.c (.slice pa un pc) us x y w' h
      rw [PM.out] at fc
      unfold refV refA at fc
      go_wp2_with fail
      refine (fc _ P3.out).mono ?_
      rintro ev w4 ⟨rv, en, rfl, hrv, hen, hold, hs⟩
      obtain ⟨ra, rc, rfl, -, -⟩ := hrv.lenform
      obtain ⟨ea, ec, rfl, -, -⟩ := hen.lenform
      have RD := Lib.hid (show SV lRow w0 (.slice ra (loadM l.s ps x y).rows.length rc) (loadM l.s ps x y).rows ∧ SV lEnt w0 (.slice ea (loadM l.s ps x y).ents.length ec) (loadM l.s ps x y).ents from hold.read RW0.out)
      clear hold
      have N4 := Lib.hid (blk_step N3.out hs)
      have B4 := Lib.hid (B3.out.trans (hs.mono B3.out.size))
      have R4 := Lib.hid (R3.out.step hs)
      have O14 := Lib.hid (O1.out.below hs)
      have O24 := Lib.hid (O2.out.below hs)
      have S4 := Lib.hid hs.size
      clear hs hrv hen c0 c1 s1 n_6 n_7 n_8 fc
      unfold recVal
      have EJ := Lib.hid (fun hcd => joinCF_step acc HZ.out hcd (f := g) (n := l.s) (ps := ps))
      have ER := Lib.hid (fun hcd => chGoF_err (f := g) (n := l.s) (ps := ps) HZ.out hcd)
      obtain ⟨rr, hrr⟩ : ∃ s, loadM l.s ps x y = s := ⟨_, rfl⟩
      rw [hrr] at EJ RD ⊢
      clear hrr
      obtain ⟨sc, rws, ets⟩ := rr
      simp only at EJ RD ⊢
      generalize hnr : rws.length = nr at *
      generalize hne : ets.length = ne at *
      clear hnr hne
      have bz := alloc_below0 w4 (.cells #[.int .i64 sc.kind, .string sc.low, .string sc.high, .bool sc.unb, .int .i64 sc.right, .slice ra nr rc, .slice ea ne ec, .string sc.key, .string sc.value, .int .i64 sc.page, .int .i64 sc.hp, .int .i64 sc.hl, .string sc.hk, .int .i64 sc.ns, .int .i64 sc.ng] 55)
      have N5 := Lib.hid (blk_step N4.out bz)
      have B5 := Lib.hid (B4.out.trans (bz.mono B4.out.size))
      have R5 := Lib.hid (R4.out.step bz)
      have O15 := Lib.hid (O14.out.below bz)
      have O25 := Lib.hid (O24.out.below bz)
      have K5 := Lib.hid (blk_new w4 (.cells #[.int .i64 sc.kind, .string sc.low, .string sc.high, .bool sc.unb, .int .i64 sc.right, .slice ra nr rc, .slice ea ne ec, .string sc.key, .string sc.value, .int .i64 sc.page, .int .i64 sc.hp, .int .i64 sc.hl, .string sc.hk, .int .i64 sc.ns, .int .i64 sc.ng] 55))
      have BO := Lib.hid O14.out.bounds
      have BP := Lib.hid O24.out.bounds
      clear bz
      by_cases hcd : codeM l.s ps x y = 0
      ·rw [hcd]
       have EK := Lib.hid (EJ.out hcd)
       clear EJ ER hcd
       have c0 := R5.out.c0
       have c1 := R5.out.c1
       have SR := Lib.hid (show OwnS lRec 0 ((w4.alloc (.cells #[.int .i64 sc.kind, .string sc.low, .string sc.high, .bool sc.unb, .int .i64 sc.right, .slice ra nr rc, .slice ea ne ec, .string sc.key, .string sc.value, .int .i64 sc.page, .int .i64 sc.hp, .int .i64 sc.hl, .string sc.hk, .int .i64 sc.ns, .int .i64 sc.ng] 55)).alloc (.cells #[.int .i64 sc.kind, .string sc.low, .string sc.high, .bool sc.unb, .int .i64 sc.right, .slice ra nr rc, .slice ea ne ec, .string sc.key, .string sc.value, .int .i64 sc.page, .int .i64 sc.hp, .int .i64 sc.hl, .string sc.hk, .int .i64 sc.ns, .int .i64 sc.ng] 55)) (.slice (some ⟨w4.heap.size + 1, 0, none⟩) 1 1) [(⟨sc, ra, nr, rc, ea, ne, ec⟩ : RcL)] from OwnS.lit lRec 0 (w4.alloc (.cells #[.int .i64 sc.kind, .string sc.low, .string sc.high, .bool sc.unb, .int .i64 sc.right, .slice ra nr rc, .slice ea ne ec, .string sc.key, .string sc.value, .int .i64 sc.page, .int .i64 sc.hp, .int .i64 sc.hl, .string sc.hk, .int .i64 sc.ns, .int .i64 sc.ng] 55)) (w4.heap.size + 1) (by simp) [(⟨sc, ra, nr, rc, ea, ne, ec⟩ : RcL)] (Nat.zero_le _) (by unfold maxLen; simp))
       have by2 := alloc_below0 (w4.alloc (.cells #[.int .i64 sc.kind, .string sc.low, .string sc.high, .bool sc.unb, .int .i64 sc.right, .slice ra nr rc, .slice ea ne ec, .string sc.key, .string sc.value, .int .i64 sc.page, .int .i64 sc.hp, .int .i64 sc.hl, .string sc.hk, .int .i64 sc.ns, .int .i64 sc.ng] 55)) (.cells #[.int .i64 sc.kind, .string sc.low, .string sc.high, .bool sc.unb, .int .i64 sc.right, .slice ra nr rc, .slice ea ne ec, .string sc.key, .string sc.value, .int .i64 sc.page, .int .i64 sc.hp, .int .i64 sc.hl, .string sc.hk, .int .i64 sc.ns, .int .i64 sc.ng] 55)
       have N6 := Lib.hid (blk_step N5.out by2)
       have B6 := Lib.hid (B5.out.trans (by2.mono B5.out.size))
       have R6 := Lib.hid (R5.out.step by2)
       have O16 := Lib.hid (O15.out.below by2)
       have O26 := Lib.hid (O25.out.below by2)
       have K6 := Lib.hid (blk_step K5.out by2)
       clear by2
       have h15 : ds.length + 1 ≤ 100000 := by have := OKL.out.s2; have := HL.out.1; have h9 : ds.length = acc.length := (by have := HMp.out.1; simpa using this); omega
       have H15 := Lib.hid h15
       have Z6 := Lib.hid (show w1.heap.size + 1 ≤ ((w4.alloc (.cells #[.int .i64 sc.kind, .string sc.low, .string sc.high, .bool sc.unb, .int .i64 sc.right, .slice ra nr rc, .slice ea ne ec, .string sc.key, .string sc.value, .int .i64 sc.page, .int .i64 sc.hp, .int .i64 sc.hl, .string sc.hk, .int .i64 sc.ns, .int .i64 sc.ng] 55)).alloc (.cells #[.int .i64 sc.kind, .string sc.low, .string sc.high, .bool sc.unb, .int .i64 sc.right, .slice ra nr rc, .slice ea ne ec, .string sc.key, .string sc.value, .int .i64 sc.page, .int .i64 sc.hp, .int .i64 sc.hl, .string sc.hk, .int .i64 sc.ns, .int .i64 sc.ng] 55)).heap.size by have := R6.out.lt; omega)
       have H16 := Lib.hid (show rs.length + 1 ≤ 100000 by have h1 := H15.out; have h2 := HL.out.2; have h3 : ds.length = acc.length := (by have := HMp.out.1; simpa using this); rw [h2, List.length_map]; omega)
       have HB := Lib.hid (show wc.heap.size ≤ w4.heap.size from S4.out)
       clear h15
       go_wp2_with (first | (refine wpList_appS lRec 49 Tryz.underlying49 lRec_known (by decide) (by decide) rfl (.tmp 47) (.tmp 49) rfl (w1.heap.size + 1) rfl rfl O16.out SR.out.sv (by have := H15.out; simpa using this) Z6.out ?_; intro v7 w7 ho7 hg7; (have N7 := Lib.hid ((hg7.block _ (Array.getElem?_eq_some_iff.1 N6.out).1 (fun hs => by have h2 := (O16.out.bounds _ hs.symm).1; have := Z1.out; omega)).trans N6.out)); (have R7 := Lib.hid (R6.out.keep (Kept.of_grown hg7) (fun hs => by have h2 := (O16.out.bounds _ hs.symm).1; omega))); (have O27 := Lib.hid (O26.out.kept (Kept.of_grown hg7) (fun a n c hv hs => (O16.out.neB O26.out (by decide)) a n c hv hs.symm))); (have K7 := Lib.hid ((hg7.block _ (Array.getElem?_eq_some_iff.1 K6.out).1 (fun hs => by have h2 := (BO.out _ hs.symm).2; omega)).trans K6.out)); (have B7 := Lib.hid (ep_grown_below B6.out (O16.out.mono (b' := w.heap.size) (by have := B1.out.size; omega)) hg7 B6.out.size)); (have O17 := Lib.hid ho7); clear c0 c1; have c0 := R7.out.c0; have c1 := R7.out.c1; clear ho7 hg7; have b8 := alloc_below0 w7 (.cells #[.int .i64 x, .int .i64 y] 48); have N8 := Lib.hid (blk_step N7.out b8); have R8 := Lib.hid (R7.out.step b8); have O18 := Lib.hid (O17.out.below b8); have O28 := Lib.hid (O27.out.below b8); have K8 := Lib.hid (blk_step K7.out b8); have B8 := Lib.hid (B7.out.trans (b8.mono B7.out.size)); have SX := Lib.hid (show OwnS lRef 0 (w7.alloc (.cells #[.int .i64 x, .int .i64 y] 48)) (.slice (some ⟨w7.heap.size, 0, none⟩) 1 1) [((x, y) : Rf)] from OwnS.lit lRef 0 w7 w7.heap.size rfl [(x, y)] (Nat.zero_le _) (by unfold maxLen; simp)); clear b8) | (refine wpList_appS lRef 66 Tryz.underlying66 lRef_known (by decide) (by decide) rfl (.tmp 51) (.tmp 53) rfl (w1.heap.size + 1) rfl rfl O28.out SX.out.sv (by have := H16.out; simpa using this) (by have := R8.out.lt; omega) ?_; intro v9 w9 ho9 hg9; (have N9 := Lib.hid ((hg9.block _ (Array.getElem?_eq_some_iff.1 N8.out).1 (fun hs => by have h2 := (O28.out.bounds _ hs.symm).1; have := Z1.out; omega)).trans N8.out)); (have R9 := Lib.hid (R8.out.keep (Kept.of_grown hg9) (fun hs => by have h2 := (O28.out.bounds _ hs.symm).1; omega))); (have O19 := Lib.hid (O18.out.kept (Kept.of_grown hg9) (fun a n c hv hs => (O28.out.neB O18.out (by decide)) a n c hv hs.symm))); (have K9 := Lib.hid ((hg9.block _ (Array.getElem?_eq_some_iff.1 K8.out).1 (fun hs => by have h2 := (BP.out _ hs.symm).2; omega)).trans K8.out)); (have B9 := Lib.hid (ep_grown_below B8.out (O28.out.mono (b' := w.heap.size) (by have := B1.out.size; omega)) hg9 B8.out.size)); (have O29 := Lib.hid ho9); clear ho9 hg9 c0 c1; (have e0 : w9.cell? ⟨w4.heap.size, 13, none⟩ = some (.int .i64 sc.ns) := blk_cell K9.out 13); (have e1 : w9.cell? ⟨w4.heap.size, 14, none⟩ = some (.int .i64 sc.ng) := blk_cell K9.out 14); obtain ⟨f0, f1, f2, f3, f4⟩ := two_facts R9.out.blk (.int .i64 sc.ns) (.int .i64 sc.ng); (have R10 := Lib.hid f4); clear f4))
       go_roundg g
       case measure => omega
       case rel =>
        have hK : Kept (fun k => k = w1.heap.size) w9 ((w9.setCell ⟨w1.heap.size, 0, none⟩ (.int .i64 sc.ns)).setCell ⟨w1.heap.size, 1, none⟩ (.int .i64 sc.ng)) := ((Kept.refl _ w9).setCell _ _).setCell _ _
        have h1 := B1.out.size
        refine ⟨acc ++ [(⟨sc, rws, ets⟩, (x, y))], ds ++ [⟨sc, ra, nr, rc, ea, ne, ec⟩], rs ++ [(x, y)], sc.ns, sc.ng, ⟨?_, ?_⟩, ?_, ?_, ?_, ⟨R10.out⟩, ?_, ?_, ?_⟩
        ·have := HL.out.1; rw [List.length_append]; simp only [List.length_cons, List.length_nil]; omega
        ·rw [HL.out.2, List.map_append]; rfl
        ·rw [List.map_append]; exact HMp.out.snoc ⟨rfl, RD.out.1, RD.out.2⟩
        ·exact O19.out.kept hK (fun a n c hv hs => by have := (O19.out.bounds a.block (by rw [hv]; rfl)).1; omega)
        ·exact O29.out.kept hK (fun a n c hv hs => by have := (O29.out.bounds a.block (by rw [hv]; rfl)).1; omega)
        ·exact (hK.block _ (Array.getElem?_eq_some_iff.1 N9.out).1 (by have := Z1.out; omega)).trans N9.out
        ·rw [E3.out, EK.out]
        ·exact below_set (below_set B9.out h1 _ _) h1 _ _
      ·have EK := Lib.hid (ER.out hcd)
       obtain ⟨z, hzc⟩ : ∃ z, codeM l.s ps x y = z := ⟨_, rfl⟩
       rw [hzc] at hcd EK ⊢
       have hcb : (z != 0) = true := by rw [bne_iff_ne]; exact hcd
       have HC := Lib.hid hcd
       clear EJ ER hcd hzc
       go_wp2
       refine bodyPost_ret (results_tmp3 rfl _ _ _) rfl ?_
       have e := E3.out
       rw [EK.out] at e
       have e2 : chF l.s ps L p = ([], z) := by rw [e]; unfold joinCF; simp only [if_neg HC.out]
       rw [e2]
       exact RChainF.none rfl rfl B5.out
 ·have HM := Lib.hid (show chF l.s ps L p = ([], codeT L p) by unfold chF; rw [if_pos hc])
  obtain ⟨z, hzc⟩ : ∃ z, codeT L p = z := ⟨_, rfl⟩
  rw [hzc] at hc HM ⊢
  have hcb : (z != 0) = true := by rw [bne_iff_ne]; exact hc
  clear hc hzc
  generalize headT L p = hh at *
  obtain ⟨hx, hy⟩ := hh
  unfold refV
  have B2 := Lib.hid (B1.out.trans ((alloc_below0 w1 (.cells #[.int .i64 hx, .int .i64 hy] 48)).mono B1.out.size))
  go_wp2
  refine bodyPost_ret (results_tmp3 rfl _ _ _) rfl ?_
  rw [HM.out]
  exact RChainF.none rfl rfl B2.out
open Go.RowKit
theorem OwnS.gr {α β : Type} {E : Lay α} {F : Lay β} {b c : Nat} {w w' : World} {v u : Value} {xs : List α} {ys : List β} (k : OwnS F c w u ys) (hg : w.grownBy w' v.ownBlock) (ho : OwnS E b w v xs) (hne : E.ty ≠ F.ty) : OwnS F c w' u ys :=
 k.kept (Kept.of_grown hg) (fun a n d hv hs => (ho.neB k hne) a n d hv hs.symm)
def RdO (n : Nat) (w : World) (ds : List RcL) (es : List RecD) : Prop := ds.length = es.length ∧ ∀ (j : Nat) (x : RcL) (e : RecD), ds[j]? = some x → es[j]? = some e → x.sc = e.sc ∧ OwnS lRow n w (.slice x.ra x.rn x.rc) e.rows ∧ OwnS lEnt n w (.slice x.ea x.en x.ec) e.ents
theorem RdO.nil (n : Nat) (w : World) : RdO n w [] [] := ⟨rfl, fun j x e h => by cases h⟩
theorem RdO.low {n : Nat} {w w' : World} {ds : List RcL} {es : List RecD} (h : RdO n w ds es) (hs : Below w.heap.size w w') : RdO n w' ds es :=
 ⟨h.1, fun j x e h1 h2 => ⟨(h.2 j x e h1 h2).1, (h.2 j x e h1 h2).2.1.below hs, (h.2 j x e h1 h2).2.2.below hs⟩⟩
theorem RdO.gr {α : Type} {E : Lay α} {b n : Nat} {w w' : World} {v : Value} {xs : List α} {ds : List RcL} {es : List RecD} (h : RdO n w ds es) (hg : w.grownBy w' v.ownBlock) (ho : OwnS E b w v xs) (h1 : E.ty ≠ lRow.ty) (h2 : E.ty ≠ lEnt.ty) : RdO n w' ds es :=
 ⟨h.1, fun j x e g1 g2 => ⟨(h.2 j x e g1 g2).1, (h.2 j x e g1 g2).2.1.gr hg ho h1, (h.2 j x e g1 g2).2.2.gr hg ho h2⟩⟩
theorem RdO.offR {n : Nat} {w w' : World} {ds : List RcL} {es : List RecD} {g : Nat} {cs : Array Value} (h : RdO n w ds es) (hb : w.heap[g]? = some (.cells cs 48 (0, 0))) (hk : Kept (fun k => k = g) w w') : RdO n w' ds es :=
 ⟨h.1, fun j x e g1 g2 => ⟨(h.2 j x e g1 g2).1, (h.2 j x e g1 g2).2.1.kept hk ((h.2 j x e g1 g2).2.1.offT hb (by decide)), (h.2 j x e g1 g2).2.2.kept hk ((h.2 j x e g1 g2).2.2.offT hb (by decide))⟩⟩
theorem RdO.snoc {n : Nat} {w : World} {ds : List RcL} {es : List RecD} (h : RdO n w ds es) {x : RcL} {e : RecD} (hx : x.sc = e.sc ∧ OwnS lRow n w (.slice x.ra x.rn x.rc) e.rows ∧ OwnS lEnt n w (.slice x.ea x.en x.ec) e.ents) : RdO n w (ds ++ [x]) (es ++ [e]) := by
 refine ⟨by rw [List.length_append, List.length_append, h.1]; rfl, fun j y f h1 h2 => ?_⟩
 by_cases hj : j < ds.length
 ·rw [List.getElem?_append_left hj] at h1
  rw [List.getElem?_append_left (by rw [← h.1]; exact hj)] at h2
  exact h.2 j y f h1 h2
 ·have hl : j < (ds ++ [x]).length := (List.getElem?_eq_some_iff.1 h1).1
  rw [List.length_append, List.length_cons, List.length_nil] at hl
  obtain rfl : j = ds.length := by omega
  rw [List.getElem?_append_right (Nat.le_refl _), Nat.sub_self] at h1
  rw [h.1, List.getElem?_append_right (Nat.le_refl _), Nat.sub_self] at h2
  obtain rfl := Option.some.inj h1
  obtain rfl := Option.some.inj h2
  exact hx
def ChainF (w : World) (r : List (RecD × Rf) × Int) (ev : Ending) (w' : World) : Prop :=
 ∃ v1 v2 v3 ds, ev = .returned (.tuple #[v1, v2, v3]) ∧ RdO w.heap.size w' ds (r.1.map Prod.fst) ∧ OwnS lRec w.heap.size w' v1 ds ∧ OwnS lRef w.heap.size w' v2 (r.1.map Prod.snd) ∧ ErrF w' v3 r.2 ∧ Below w.heap.size w w'
theorem ChainF.none {w w' : World} {r : List (RecD × Rf) × Int} {v3 : Value} (h1 : r.1 = []) (h2 : ErrF w' v3 r.2) (hs : Below w.heap.size w w') : ChainF w r (.returned (.tuple #[.slice none 0 0, .slice none 0 0, v3])) w' :=
 ⟨_, _, _, [], rfl, by rw [h1]; exact RdO.nil _ _, OwnS.nil _ _ _, by rw [h1]; exact OwnS.nil _ _ _, h2, hs⟩
def LoadedF (d : RecD) (e : Int) (w : World) (s t : Value) (w' : World) : Prop :=
 ∃ b ra rn rc ea en ec, s = .pointer (some ⟨b, 0, none⟩) ∧ t = errV e ∧ w'.heap[b]? = some (recObj d.sc (.slice ra rn rc) (.slice ea en ec)) ∧ w.heap.size ≤ b ∧ OwnS lRow w.heap.size w' (.slice ra rn rc) d.rows ∧ OwnS lEnt w.heap.size w' (.slice ea en ec) d.ents ∧ Below w.heap.size w w'
theorem chainF (w : World) (m : MB) (S : Nat → Prop) (l : LimN) (k : Int) (ps : List Pt) (L : List Pg) (c : Ck) (p : Int) (h : MemAt w m S l k ps L c) :
  Calls Tryz.prog 23 #[.pointer (some ⟨m.mb, 0, none⟩), .int .i64 p] w (ChainF w (chF l.s ps L p)) := by
 have M0 := Lib.hid h
 have OKL := Lib.hid h.ok
 have x0 := h.cT
 clear h
 go_enter Tryz.func23, Tryz.ntmps23
 go_wp2_with fail
 refine (head_any _ m.ab m.pb l.p L p M0.out.tb).mono ?_
 rintro ev w1 ⟨rfl, hs⟩
 have M1 := Lib.hid (M0.out.low hs)
 have B1 := Lib.hid hs
 clear hs x0
 by_cases hc : codeT L p = 0
 ·have HM := Lib.hid (show chF l.s ps L p = chGoF l.s ps l.s (headT L p).1 (headT L p).2 by unfold chF; rw [if_neg (by rw [hc]; decide)])
  rw [errV_at hc]
  generalize (headT L p).1 = x at *
  generalize (headT L p).2 = y at *
  unfold refV
  have b2 := alloc_below0 w1 (.cells #[.int .i64 x, .int .i64 y] 48)
  have M2 := Lib.hid (M1.out.low b2)
  have B2 := Lib.hid (B1.out.trans (b2.mono B1.out.size))
  have R2 := Lib.hid (RfB.mk (blk_new w1 (.cells #[.int .i64 x, .int .i64 y] 48)))
  clear b2
  go_wp2_with fail
  go_loopg [9, 10] l.s (fun g v9 v10 wr => ∃ acc ds rs x y, (acc.length + g = l.s ∧ rs = acc.map Prod.snd) ∧ RdO w.heap.size wr ds (acc.map Prod.fst) ∧ OwnS lRec (w1.heap.size + 1) wr v9 ds ∧ OwnS lRef (w1.heap.size + 1) wr v10 rs ∧ RfB wr w1.heap.size x y ∧ MemAt wr m S l k ps L c ∧ chF l.s ps L p = joinCF acc (chGoF l.s ps g x y) ∧ Below w.heap.size w wr)
  case atStart => exact ⟨[], [], [], x, y, by simp, RdO.nil _ _, OwnS.nil _ _ _, OwnS.nil _ _ _, R2.out, M2.out, by rw [HM.out, joinCF_nil _ (chGoF_no _ _ _ _ _)], B2.out⟩
  case round =>
   clear HM R2 M2 B2
   obtain ⟨acc, ds, rs, x, y, hl, hm, o1, o2, hR, hM, hE, hB⟩ := hrel
   have c0 := hR.c0
   have c1 := hR.c1
   have R3 := Lib.hid hR
   have M3 := Lib.hid hM
   have B3 := Lib.hid hB
   have E3 := Lib.hid hE
   have HL := Lib.hid hl
   have HMp := Lib.hid hm
   have O1 := Lib.hid o1
   have O2 := Lib.hid o2
   have s1 := hM.cS
   obtain ⟨a9, c9, rfl, -, -⟩ := o1.sv.lenform
   obtain ⟨a10, c10, rfl, -, -⟩ := o2.sv.lenform
   clear hR hM hE hB hm o1 o2 hl
   by_cases hz : x = 0 ∧ y = 0
   ·obtain ⟨rfl, rfl⟩ := hz
    go_wp2
    refine bodyPost_ret (results_tmp3 rfl _ _ _) rfl ?_
    have e := E3.out
    rw [chGoF_end] at e
    have e2 : chF l.s ps L p = (acc, 0) := by rw [e]; unfold joinCF; simp
    rw [e2]
    have h1 := B1.out.size
    exact ⟨_, _, _, ds, rfl, HMp.out, O1.out.mono (by omega), by have o := O2.out.mono (b' := w.heap.size) (by omega); rw [HL.out.2] at o; simpa [HL.out.2] using o, .inl ⟨rfl, rfl⟩, B3.out⟩
   ·have HZ := Lib.hid hz
    go_upto_region 8 with (fail)
    go_cut [32] from 30 to 66 (fun s32 wc => s32 = .bool true ∧ wc = wr)
    case first =>
     go_wp2
     all_goals (go_meet; case rel => exact ⟨rfl, rfl⟩)
    case rest =>
     obtain ⟨rfl, hwc⟩ := hcut
     subst hwc
     have hdl : ds.length = acc.length := by have := HMp.out.1; simpa using this
     have hl := HL.out.1
     cases gk with
     | zero =>
      have h9 : l.s ≤ ds.length := by omega
      clear hl hdl
      go_wp2
      refine bodyPost_ret (results_tmp3 rfl _ _ _) rfl ?_
      have e := E3.out
      rw [chGoF_zero HZ.out] at e
      have e2 : chF l.s ps L p = ([], 10) := by rw [e]; unfold joinCF; simp
      rw [e2]
      exact ChainF.none rfl (.inr ⟨by decide, .inl rfl⟩) B3.out
     | succ g =>
      have h9 : ¬ l.s ≤ ds.length := by omega
      clear hl hdl
      have cA := M3.out.cA
      have fc := fun w' h => load_any m.aa S l.s l.c ps x y w' h
      unfold refV at fc
      go_upto_region 11 with (fail)
      go_cut [11, 12] from 30 to 66 (fun s11 s12 w' => LoadedF (loadM l.s ps x y) (codeM l.s ps x y) wc s11 s12 w')
      case first =>
       go_wp2_with fail
       have HS := Lib.hid (show ∀ w', Below wc.heap.size wc w' → (fun w' => w'.cell? ⟨m.mb, 7, none⟩ = some (.pointer (some m.aa)) ∧ w'.cell? ⟨w1.heap.size, 0, none⟩ = some (.int .i64 x) ∧ w'.cell? ⟨w1.heap.size, 1, none⟩ = some (.int .i64 y)) w' from fun w' hb => ⟨cell_step cA hb, cell_step c0 hb, cell_step c1 hb⟩)
       refine AnyBut.region (fun w' => w'.cell? ⟨m.mb, 7, none⟩ = some (.pointer (some m.aa)) ∧ w'.cell? ⟨w1.heap.size, 0, none⟩ = some (.int .i64 x) ∧ w'.cell? ⟨w1.heap.size, 1, none⟩ = some (.int .i64 y)) 11 (by kernel_rfl) ?_
       refine tkB (i := 0) (oi := ⟨some 43, _, _, _, _, none⟩) (v := ?va0) rfl (Or.inl ⟨by rfl, ?hya0⟩) (HS.out _ (Below.refl _ _).drew) ?resta0
       case hya0 => (intro w hSw; go_simp; try (with_reducible rfl))
       simp only [Act.put, sT, sZ, sS]
       refine tkB (i := 1) (oi := ⟨some 44, _, _, _, _, none⟩) (v := ?va1) rfl (Or.inl ⟨by rfl, ?hya1⟩) (HS.out _ (Below.refl _ _).drew) ?resta1
       case hya1 => (intro w hSw; go_simp; try (with_reducible rfl))
       simp only [Act.put, sT, sZ, sS]
       refine tkB (i := 2) (oi := ⟨some 45, _, _, _, _, none⟩) (v := ?va2) rfl (Or.inl ⟨by rfl, ?hya2⟩) (HS.out _ (Below.refl _ _).drew) ?resta2
       case hya2 => (intro w hSw; go_simp; try (with_reducible rfl))
       simp only [Act.put, sT, sZ, sS]
       refine tkB (i := 3) (oi := ⟨some 46, _, _, _, _, none⟩) (v := ?va3) rfl (Or.inl ⟨by rfl, ?hya3⟩) (HS.out _ (Below.refl _ _).drew) ?resta3
       case hya3 => (intro w hSw; go_simp; try (with_reducible rfl))
       simp only [Act.put, sT, sZ, sS]
       refine tkB (i := 4) (oi := ⟨some 47, _, _, _, _, none⟩) (v := ?va4) rfl (Or.inl ⟨by rfl, ?hya4⟩) (HS.out _ (Below.refl _ _).drew) ?resta4
       case hya4 => (intro w hSw; go_simp; try (with_reducible rfl))
       simp only [Act.put, sT, sZ, sS]
       refine AnyBut.two (i := 5) (j := 9) (o := ⟨some 48, _, _, _, _, none⟩) (u := ⟨some 11, _, _, _, _, none⟩) (by kernel_rfl) rfl rfl (fun K hK => ?_) (fun K hK => ?_)
       ·go_simp
        refine (fc _ (M3.out.ar.low (Below.refl _ _).drew)).mono ?_
        rintro e2 w2 ⟨rv, en, rfl, o1, o2, hs⟩
        obtain ⟨ra, rc, rfl, -, -⟩ := o1.sv.lenform
        obtain ⟨ea, ec, rfl, -, -⟩ := o2.sv.lenform
        have OR := Lib.hid (o1.mono (b' := wc.heap.size) (by first | exact Nat.le_refl _ | exact b8.out.size))
        have OE := Lib.hid (o2.mono (b' := wc.heap.size) (by first | exact Nat.le_refl _ | exact b8.out.size))
        generalize (loadM l.s ps x y).rows.length = nr at *
        generalize (loadM l.s ps x y).ents.length = ne at *
        have BX := Lib.hid (((Below.refl wc.heap.size wc).drew).trans (hs.mono ((Below.refl wc.heap.size wc).drew).size))
        clear hs o1 o2
        refine hK.out _ _ (fun _ => HS.out _ BX.out) ?_
        clear hK K
        try simp only [Act.put, sT, sZ, sS]
        refine tkB (i := 6) (oi := ⟨some 42, _, _, _, _, none⟩) (v := ?vb6) rfl (Or.inl ⟨by rfl, ?hyb6⟩) (HS.out _ BX.out) ?restb6
        case hyb6 => (intro w hSw; go_simp; try (with_reducible rfl))
        simp only [Act.put, sT, sZ, sS]
        refine tkB (i := 7) (oi := ⟨some 49, _, _, _, _, none⟩) (v := ?vb7) rfl (Or.inl ⟨by rfl, ?hyb7⟩) (HS.out _ BX.out) ?restb7
        case hyb7 => (intro w hSw; go_simp; try (with_reducible rfl))
        simp only [Act.put, sT, sZ, sS]
        refine tkB (i := 8) (oi := ⟨some 50, _, _, _, _, none⟩) (v := ?vb8) rfl (Or.inl ⟨by rfl, ?hyb8⟩) (HS.out _ BX.out) ?restb8
        case hyb8 => (intro w hSw; go_simp; try (with_reducible rfl))
        simp only [Act.put, sT, sZ, sS]
        have b9 := BX.out.trans ((alloc_below0 w2 (recObj Sc.zero (.slice none 0 0) (.slice none 0 0))).mono BX.out.size)
        have k9 := blk_new w2 (recObj Sc.zero (.slice none 0 0) (.slice none 0 0))
        have B9 := Lib.hid b9
        have K9 := Lib.hid k9
        have OR9 := Lib.hid (OR.out.below (alloc_below0 w2 (recObj Sc.zero (.slice none 0 0) (.slice none 0 0))))
        have OE9 := Lib.hid (OE.out.below (alloc_below0 w2 (recObj Sc.zero (.slice none 0 0) (.slice none 0 0))))
        clear b9 k9
        refine AnyBut.one (i := 9) (o := ⟨some 11, _, _, _, _, none⟩) (by kernel_rfl) rfl (fun K hK => ?_)
        go_simp
        refine hK.out _ _ (fun _ => HS.out _ B9.out) ?_
        clear hK K
        try simp only [Act.put, sT, sZ, sS]
        have B10 := Lib.hid (below_setCells (b := w2.heap.size) (show wc.heap.size ≤ w2.heap.size by have := BX.out.size; omega) (recCells (loadM l.s ps x y).sc (.slice ra nr rc) (.slice ea ne ec)) 0 _ B9.out)
        have K10 := Lib.hid (show _ = some (recObj (loadM l.s ps x y).sc (.slice ra nr rc) (.slice ea ne ec)) from list_laid (recCells (loadM l.s ps x y).sc (.slice ra nr rc) (.slice ea ne ec)) K9.out rfl)
        have OR10 := Lib.hid (OR9.out.kept (Kept.setCells (recCells (loadM l.s ps x y).sc (.slice ra nr rc) (.slice ea ne ec)) 0 _ (Kept.refl _ _)) (OR9.out.offT K9.out (by decide)))
        have OE10 := Lib.hid (OE9.out.kept (Kept.setCells (recCells (loadM l.s ps x y).sc (.slice ra nr rc) (.slice ea ne ec)) 0 _ (Kept.refl _ _)) (OE9.out.offT K9.out (by decide)))
        refine AnyBut.one (i := 10) (o := ⟨none, _, _, _, _, none⟩) (by kernel_rfl) rfl (fun K hK => ?_)
        rw [if_pos (by rfl)]
        refine wp_store_mid 55 (.tmp 11) (.tmp 49) rfl w2.heap.size 0 (recCells (loadM l.s ps x y).sc (.slice ra nr rc) (.slice ea ne ec)).toArray rfl rfl (blk_there K9.out 15 (Nat.le_refl _)) (by kernel_rfl) (rec_one ..) ?_
        refine hK.out _ _ (fun _ => HS.out _ B10.out) ?_
        clear hK K
        try simp only [Act.put]
        refine AnyBut.one (i := 11) (o := ⟨some 12, _, _, _, _, none⟩) (by kernel_rfl) rfl (fun K hK => ?_)
        go_simp
        refine hK.out _ _ (fun h => absurd rfl h) ?_
        clear hK K
        try simp only [Act.put, sT, sZ, sS]
        refine AnyBut.done (by kernel_rfl) ?_ _
        go_wp2
        go_meet
        case rel => exact ⟨_, _, _, _, _, _, _, rfl, rfl, K10.out, (by have := BX.out.size; omega), OR10.out, OE10.out, B10.out⟩
       ·have k8 := Lib.hid (show (wc.drew.alloc (recObj Sc.zero (.slice none 0 0) (.slice none 0 0))).heap[wc.heap.size]? = some (recObj Sc.zero (.slice none 0 0) (.slice none 0 0)) from blk_new wc.drew (recObj Sc.zero (.slice none 0 0) (.slice none 0 0)))
        have b8 := Lib.hid ((Below.refl wc.heap.size wc).drew.alloc (Nat.le_refl _) (recObj Sc.zero (.slice none 0 0) (.slice none 0 0)))
        go_simp
        refine hK.out _ _ (fun _ => HS.out _ b8.out) ?_
        clear hK K
        try simp only [Act.put, sT, sZ, sS]
        refine AnyBut.one (i := 5) (o := ⟨some 48, _, _, _, _, none⟩) (by kernel_rfl) rfl (fun K hK => ?_)
        go_simp
        refine (fc _ (M3.out.ar.low b8.out)).mono ?_
        rintro e2 w2 ⟨rv, en, rfl, o1, o2, hs⟩
        obtain ⟨ra, rc, rfl, -, -⟩ := o1.sv.lenform
        obtain ⟨ea, ec, rfl, -, -⟩ := o2.sv.lenform
        have OR := Lib.hid (o1.mono (b' := wc.heap.size) (by first | exact Nat.le_refl _ | exact b8.out.size))
        have OE := Lib.hid (o2.mono (b' := wc.heap.size) (by first | exact Nat.le_refl _ | exact b8.out.size))
        generalize (loadM l.s ps x y).rows.length = nr at *
        generalize (loadM l.s ps x y).ents.length = ne at *
        have BX := Lib.hid (b8.out.trans (hs.mono b8.out.size))
        have K9 := Lib.hid (blk_step k8.out hs)
        have OR9 := Lib.hid OR.out
        have OE9 := Lib.hid OE.out
        clear hs o1 o2
        refine hK.out _ _ (fun _ => HS.out _ BX.out) ?_
        clear hK K
        try simp only [Act.put, sT, sZ, sS]
        refine tkB (i := 6) (oi := ⟨some 42, _, _, _, _, none⟩) (v := ?vc6) rfl (Or.inl ⟨by rfl, ?hyc6⟩) (HS.out _ BX.out) ?restc6
        case hyc6 => (intro w hSw; go_simp; try (with_reducible rfl))
        simp only [Act.put, sT, sZ, sS]
        refine tkB (i := 7) (oi := ⟨some 49, _, _, _, _, none⟩) (v := ?vc7) rfl (Or.inl ⟨by rfl, ?hyc7⟩) (HS.out _ BX.out) ?restc7
        case hyc7 => (intro w hSw; go_simp; try (with_reducible rfl))
        simp only [Act.put, sT, sZ, sS]
        refine tkB (i := 8) (oi := ⟨some 50, _, _, _, _, none⟩) (v := ?vc8) rfl (Or.inl ⟨by rfl, ?hyc8⟩) (HS.out _ BX.out) ?restc8
        case hyc8 => (intro w hSw; go_simp; try (with_reducible rfl))
        simp only [Act.put, sT, sZ, sS]
        have B10 := Lib.hid (below_setCells (b := wc.heap.size) (show wc.heap.size ≤ wc.heap.size by exact Nat.le_refl _) (recCells (loadM l.s ps x y).sc (.slice ra nr rc) (.slice ea ne ec)) 0 _ BX.out)
        have K10 := Lib.hid (show _ = some (recObj (loadM l.s ps x y).sc (.slice ra nr rc) (.slice ea ne ec)) from list_laid (recCells (loadM l.s ps x y).sc (.slice ra nr rc) (.slice ea ne ec)) K9.out rfl)
        have OR10 := Lib.hid (OR9.out.kept (Kept.setCells (recCells (loadM l.s ps x y).sc (.slice ra nr rc) (.slice ea ne ec)) 0 _ (Kept.refl _ _)) (OR9.out.offT K9.out (by decide)))
        have OE10 := Lib.hid (OE9.out.kept (Kept.setCells (recCells (loadM l.s ps x y).sc (.slice ra nr rc) (.slice ea ne ec)) 0 _ (Kept.refl _ _)) (OE9.out.offT K9.out (by decide)))
        refine AnyBut.one (i := 10) (o := ⟨none, _, _, _, _, none⟩) (by kernel_rfl) rfl (fun K hK => ?_)
        rw [if_pos (by rfl)]
        refine wp_store_mid 55 (.tmp 11) (.tmp 49) rfl wc.heap.size 0 (recCells (loadM l.s ps x y).sc (.slice ra nr rc) (.slice ea ne ec)).toArray rfl rfl (blk_there K9.out 15 (Nat.le_refl _)) (by kernel_rfl) (rec_one ..) ?_
        refine hK.out _ _ (fun _ => HS.out _ B10.out) ?_
        clear hK K
        try simp only [Act.put]
        refine AnyBut.one (i := 11) (o := ⟨some 12, _, _, _, _, none⟩) (by kernel_rfl) rfl (fun K hK => ?_)
        go_simp
        refine hK.out _ _ (fun h => absurd rfl h) ?_
        clear hK K
        try simp only [Act.put, sT, sZ, sS]
        refine AnyBut.done (by kernel_rfl) ?_ _
        go_wp2
        go_meet
        case rel => exact ⟨_, _, _, _, _, _, _, rfl, rfl, K10.out, (Nat.le_refl _), OR10.out, OE10.out, B10.out⟩
      case rest =>
       obtain ⟨b, ra, nr, rc, ea, ne, ec, rfl, rfl, hb, hlb, hor, hoe, hs⟩ := hcut
       have M4 := Lib.hid (M3.out.low hs)
       have B4 := Lib.hid (B3.out.trans (hs.mono B3.out.size))
       have R4 := Lib.hid (R3.out.step hs)
       have O14 := Lib.hid (O1.out.below hs)
       have O24 := Lib.hid (O2.out.below hs)
       have K4 := Lib.hid hb
       have OR4 := Lib.hid (hor.mono (b' := w.heap.size) B3.out.size)
       have OE4 := Lib.hid (hoe.mono (b' := w.heap.size) B3.out.size)
       have HM4 := Lib.hid (HMp.out.low hs)
       clear hor hoe
       have HB := Lib.hid hlb
       have BO := Lib.hid O1.out.bounds
       have BP := Lib.hid O2.out.bounds
       clear hb hlb hs c0 c1 s1 cA fc
       have c0 := R4.out.c0
       have c1 := R4.out.c1
       by_cases hcd : codeM l.s ps x y = 0
       ·rw [errV_at hcd]
        have HC := Lib.hid hcd
        clear hcd
        have EJ := Lib.hid (joinCF_step acc HZ.out HC.out (f := g))
        generalize loadM l.s ps x y = rr at *
        obtain ⟨sc, rws, ets⟩ := rr
        try simp only at EJ
        try simp only at K4
        try simp only at OR4
        try simp only at OE4
        try simp only
        have hrng : wc.rangeAt b 0 [.int .i64 sc.kind, .string sc.low, .string sc.high, .bool sc.unb, .int .i64 sc.right, .slice ra nr rc, .slice ea ne ec, .string sc.key, .string sc.value, .int .i64 sc.page, .int .i64 sc.hp, .int .i64 sc.hl, .string sc.hk, .int .i64 sc.ns, .int .i64 sc.ng] := rngB K4.out _ rfl
        have bz := alloc_below0 wc (.cells #[.int .i64 sc.kind, .string sc.low, .string sc.high, .bool sc.unb, .int .i64 sc.right, .slice ra nr rc, .slice ea ne ec, .string sc.key, .string sc.value, .int .i64 sc.page, .int .i64 sc.hp, .int .i64 sc.hl, .string sc.hk, .int .i64 sc.ns, .int .i64 sc.ng] 55)
        have SR := Lib.hid (show OwnS lRec 0 (wc.alloc (.cells #[.int .i64 sc.kind, .string sc.low, .string sc.high, .bool sc.unb, .int .i64 sc.right, .slice ra nr rc, .slice ea ne ec, .string sc.key, .string sc.value, .int .i64 sc.page, .int .i64 sc.hp, .int .i64 sc.hl, .string sc.hk, .int .i64 sc.ns, .int .i64 sc.ng] 55)) (.slice (some ⟨wc.heap.size, 0, none⟩) 1 1) [(⟨sc, ra, nr, rc, ea, ne, ec⟩ : RcL)] from OwnS.lit lRec 0 wc wc.heap.size rfl [(⟨sc, ra, nr, rc, ea, ne, ec⟩ : RcL)] (Nat.zero_le _) (by unfold maxLen; simp))
        have M5 := Lib.hid (M4.out.low bz)
        have B5 := Lib.hid (B4.out.trans (bz.mono B4.out.size))
        have R5 := Lib.hid (R4.out.step bz)
        have O15 := Lib.hid (O14.out.below bz)
        have O25 := Lib.hid (O24.out.below bz)
        have K5 := Lib.hid (blk_step K4.out bz)
        have HM5 := Lib.hid (HM4.out.low bz)
        have OR5 := Lib.hid (OR4.out.below bz)
        have OE5 := Lib.hid (OE4.out.below bz)
        clear bz
        have h15 : ds.length + 1 ≤ 100000 := by have := OKL.out.s2; have := HL.out.1; have h9 : ds.length = acc.length := (by have := HMp.out.1; simpa using this); omega
        have H15 := Lib.hid h15
        have Z5 := Lib.hid (show w1.heap.size + 1 ≤ (wc.alloc (.cells #[.int .i64 sc.kind, .string sc.low, .string sc.high, .bool sc.unb, .int .i64 sc.right, .slice ra nr rc, .slice ea ne ec, .string sc.key, .string sc.value, .int .i64 sc.page, .int .i64 sc.hp, .int .i64 sc.hl, .string sc.hk, .int .i64 sc.ns, .int .i64 sc.ng] 55)).heap.size by have := R5.out.lt; omega)
        have H16 := Lib.hid (show rs.length + 1 ≤ 100000 by have h1 := H15.out; have h2 := HL.out.2; have h3 : ds.length = acc.length := (by have := HMp.out.1; simpa using this); rw [h2, List.length_map]; omega)
        clear h15
        go_wp2_with (first | (refine wpList_load_mid rfl 55 (.tmp 11) rfl b 0 rfl _ _ hrng Tryz.underlying55 rfl (by kernel_rfl) ?_) | (refine wpList_appS lRec 49 Tryz.underlying49 lRec_known (by decide) (by decide) rfl (.tmp 57) (.tmp 59) rfl (w1.heap.size + 1) rfl rfl O15.out SR.out.sv (by have := H15.out; simpa using this) Z5.out ?_; intro v6 w6 ho6 hg6; (have HM6 := Lib.hid (HM5.out.gr hg6 O15.out (by decide) (by decide))); (have OR6 := Lib.hid (OR5.out.gr hg6 O15.out (by decide))); (have OE6 := Lib.hid (OE5.out.gr hg6 O15.out (by decide))); (have M6 := Lib.hid (M5.out.keep (Kept.of_grown hg6) (fun k hk hs => by have h1 := M0.out.lt k hk; have h2 := (O15.out.bounds k hs.symm).1; have h3 := B1.out.size; omega))); (have R6 := Lib.hid (R5.out.keep (Kept.of_grown hg6) (fun hs => by have h2 := (O15.out.bounds _ hs.symm).1; omega))); (have O26 := Lib.hid (O25.out.kept (Kept.of_grown hg6) (fun a n c hv hs => (O15.out.neB O25.out (by decide)) a n c hv hs.symm))); (have K6 := Lib.hid ((hg6.block b (Array.getElem?_eq_some_iff.1 K5.out).1 (fun hs => by have h2 := (BO.out b hs.symm).2; have h3 := HB.out; omega)).trans K5.out)); (have B6 := Lib.hid (ep_grown_below B5.out (O15.out.mono (b' := w.heap.size) (by have := B1.out.size; omega)) hg6 B5.out.size)); (have O16 := Lib.hid ho6); clear c0 c1; have c0 := R6.out.c0; have c1 := R6.out.c1; clear ho6 hg6; have b7 := alloc_below0 w6 (.cells #[.int .i64 x, .int .i64 y] 48); have M7 := Lib.hid (M6.out.low b7); have HM7 := Lib.hid (HM6.out.low b7); have OR7 := Lib.hid (OR6.out.below b7); have OE7 := Lib.hid (OE6.out.below b7); have R7 := Lib.hid (R6.out.step b7); have O17 := Lib.hid (O16.out.below b7); have O27 := Lib.hid (O26.out.below b7); have K7 := Lib.hid (blk_step K6.out b7); have B7 := Lib.hid (B6.out.trans (b7.mono B6.out.size)); have SX := Lib.hid (show OwnS lRef 0 (w6.alloc (.cells #[.int .i64 x, .int .i64 y] 48)) (.slice (some ⟨w6.heap.size, 0, none⟩) 1 1) [((x, y) : Rf)] from OwnS.lit lRef 0 w6 w6.heap.size rfl [(x, y)] (Nat.zero_le _) (by unfold maxLen; simp)); clear b7) | (refine wpList_appS lRef 66 Tryz.underlying66 lRef_known (by decide) (by decide) rfl (.tmp 61) (.tmp 63) rfl (w1.heap.size + 1) rfl rfl O27.out SX.out.sv (by have := H16.out; simpa using this) (by have := R7.out.lt; omega) ?_; intro v8 w8 ho8 hg8; (have HM8 := Lib.hid (HM7.out.gr hg8 O27.out (by decide) (by decide))); (have OR8 := Lib.hid (OR7.out.gr hg8 O27.out (by decide))); (have OE8 := Lib.hid (OE7.out.gr hg8 O27.out (by decide))); (have M8 := Lib.hid (M7.out.keep (Kept.of_grown hg8) (fun k hk hs => by have h1 := M0.out.lt k hk; have h2 := (O27.out.bounds k hs.symm).1; have h3 := B1.out.size; omega))); (have R8 := Lib.hid (R7.out.keep (Kept.of_grown hg8) (fun hs => by have h2 := (O27.out.bounds _ hs.symm).1; omega))); (have O18 := Lib.hid (O17.out.kept (Kept.of_grown hg8) (fun a n c hv hs => (O27.out.neB O17.out (by decide)) a n c hv hs.symm))); (have K8 := Lib.hid ((hg8.block b (Array.getElem?_eq_some_iff.1 K7.out).1 (fun hs => by have h2 := (BP.out b hs.symm).2; have h3 := HB.out; omega)).trans K7.out)); (have B8 := Lib.hid (ep_grown_below B7.out (O27.out.mono (b' := w.heap.size) (by have := B1.out.size; omega)) hg8 B7.out.size)); (have O28 := Lib.hid ho8); clear ho8 hg8 c0 c1; (have e0 : w8.cell? ⟨b, 13, none⟩ = some (.int .i64 sc.ns) := blk_cell K8.out 13); (have e1 : w8.cell? ⟨b, 14, none⟩ = some (.int .i64 sc.ng) := blk_cell K8.out 14); obtain ⟨f0, f1, f2, f3, f4⟩ := two_facts R8.out.blk (.int .i64 sc.ns) (.int .i64 sc.ng); (have R9 := Lib.hid f4); clear f4))
        go_roundg g
        case measure => omega
        case rel =>
         have hK : Kept (fun k => k = w1.heap.size) w8 ((w8.setCell ⟨w1.heap.size, 0, none⟩ (.int .i64 sc.ns)).setCell ⟨w1.heap.size, 1, none⟩ (.int .i64 sc.ng)) := ((Kept.refl _ w8).setCell _ _).setCell _ _
         have h1 := B1.out.size
         refine ⟨acc ++ [(⟨sc, rws, ets⟩, (x, y))], ds ++ [⟨sc, ra, nr, rc, ea, ne, ec⟩], rs ++ [(x, y)], sc.ns, sc.ng, ⟨?_, ?_⟩, ?_, ?_, ?_, ⟨R9.out⟩, ?_, ?_, ?_⟩
         ·have := HL.out.1; rw [List.length_append]; simp only [List.length_cons, List.length_nil]; omega
         ·rw [HL.out.2, List.map_append]; rfl
         ·rw [List.map_append]; exact (HM8.out.snoc ⟨rfl, OR8.out, OE8.out⟩).offR R8.out.blk hK
         ·exact O18.out.kept hK (fun a n c hv hs => by have := (O18.out.bounds a.block (by rw [hv]; rfl)).1; omega)
         ·exact O28.out.kept hK (fun a n c hv hs => by have := (O28.out.bounds a.block (by rw [hv]; rfl)).1; omega)
         ·exact M8.out.keep hK (fun k hk hs => by have := M0.out.lt k hk; omega)
         ·rw [E3.out, EJ.out]
         ·exact below_set (below_set B8.out h1 _ _) h1 _ _
       ·rw [errV_of hcd]
        have HC := Lib.hid hcd
        have fa := fun w => fAt_code ⟨#[97, 114, 101, 110, 97]⟩ x (codeM l.s ps x y) w hcd
        clear hcd
        go_wp2_with fail
        refine (fa _).mono ?_
        rintro ev w5 ⟨v, rfl, he, hs⟩
        obtain ⟨vt, vv, hv⟩ : ∃ x y, v = .iface x y := by
         rcases he with ⟨h, -⟩ | ⟨-, h | ⟨b, pl, z, h, -⟩⟩
         ·exact absurd h HC.out
         ·exact ⟨_, _, h⟩
         ·exact ⟨_, _, h⟩
        have E5 := Lib.hid he
        have B5 := Lib.hid (B4.out.trans (hs.mono B4.out.size))
        subst hv
        clear he hs fa
        go_wp2
        refine bodyPost_ret (results_tmp3 rfl _ _ _) rfl ?_
        have e := E3.out
        rw [chGoF_err HZ.out HC.out] at e
        have e2 : chF l.s ps L p = ([], codeM l.s ps x y) := by rw [e]; unfold joinCF; simp only [if_neg HC.out]
        rw [e2]
        exact ChainF.none rfl E5.out B5.out
 ·have HM := Lib.hid (show chF l.s ps L p = ([], codeT L p) by unfold chF; rw [if_pos hc])
  have HC := Lib.hid hc
  rw [errV_of hc]
  generalize headT L p = hh at *
  obtain ⟨hx, hy⟩ := hh
  unfold refV
  have b2 := alloc_below0 w1 (.cells #[.int .i64 hx, .int .i64 hy] 48)
  have B2 := Lib.hid (B1.out.trans (b2.mono B1.out.size))
  have fc := fun w => fAt_code ⟨#[116, 97, 98, 108, 101]⟩ p (codeT L p) w hc
  clear b2 hc
  go_wp2_with fail
  refine (fc _).mono ?_
  rintro ev w3 ⟨v, rfl, he, hs⟩
  obtain ⟨x, y, hv⟩ : ∃ x y, v = .iface x y := by
   rcases he with ⟨h, -⟩ | ⟨-, h | ⟨b, pl, z, h, -⟩⟩
   ·exact absurd h HC.out
   ·exact ⟨_, _, h⟩
   ·exact ⟨_, _, h⟩
  have E3 := Lib.hid he
  have B3 := Lib.hid (B2.out.trans (hs.mono B2.out.size))
  subst hv
  clear he hs fc
  go_wp2
  refine bodyPost_ret (results_tmp3 rfl _ _ _) rfl ?_
  rw [HM.out]
  exact ChainF.none rfl E3.out B3.out
end Go.Proofs.YtejmdmaebkdjoaaGreatDoor
