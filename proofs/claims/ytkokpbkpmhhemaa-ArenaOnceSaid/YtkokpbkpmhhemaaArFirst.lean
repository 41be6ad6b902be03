/- The walk of the law ArenaFirst, out of package arena's contracts. -/
import Derived.Test.YtkokpbkpmhhemaaArCounts
import Derived.Maps.OwnSet
namespace Go.Proofs.Ytkokpbkpmhhemaa
open Go.RowKit Go.Maps

theorem keyI : Keyed Try.prog 3 := int_keyed Try.underlying3
theorem zeroI (w : World) : (zeroValue 3).run Try.prog w = .ok (.int .i64 0) w := by kernel_rfl
theorem wfI {m : Int} (h1 : -9223372036854775808 ≤ m) (h2 : m ≤ 9223372036854775807) : (Lit.int .i64 m).wf = true := WalkArith.wf_i64 (by omega)
theorem Ar.kept {C : ArC} {w w1 w2 : World} {a : Addr} {S : Nat → Prop} {n l : Nat} {ps : List Pt} (h : Ar C w w1 a S n l ps) {mb : Nat} (hk : Kept (fun k => k = mb) w1 w2) (hS : ¬ S mb) (hb : w.heap.size ≤ mb) : Ar C w w2 a S n l ps :=
  ⟨C.keep h.inv (hk.wide fun _ _ e => e ▸ hS), h.base, h.low.trans (hk.below (n := w.heap.size) (fun _ e => e ▸ hb) h.low.size)⟩
/-- the map of the slots that are used: what it says at each number -/
def MapU (w : World) (mb c : Nat) (U : Int → Bool) : Prop := ∃ D : DataW Unit, w.ownsMap Try.prog 3 (plainElem Try.prog 3) mb c D ∧ ∀ m : Int, D.atKey (.int .i64 m) (.lit (.int .i64 0)) = .lit (.int .i64 (if U m then 1 else 0))
theorem MapU.made (w : World) : MapU (w.alloc (.map #[] 0)) w.heap.size 0 (fun _ => false) := ⟨.map [], World.ownsMap_made _ _ _ _, fun _ => rfl⟩
theorem MapU.low {w w' : World} {mb c : Nat} {U : Int → Bool} (h : MapU w mb c U) (hs : Below w.heap.size w w') : MapU w' mb c U := by
  obtain ⟨D, h1, h2⟩ := h
  exact ⟨D, h1.kept (row := none) ⟨hs.os, hs.tape, hs.output, hs.size, fun k hk _ => hs.block k hk⟩ (by simp), h2⟩
theorem MapU.put {w' : World} {mb c : Nat} {U : Int → Bool} {D : DataW Unit} (hm : IsMap D) (h2 : ∀ m : Int, D.atKey (.int .i64 m) (.lit (.int .i64 0)) = .lit (.int .i64 (if U m then 1 else 0))) {x : Int} (hn : w'.ownsMap Try.prog 3 (plainElem Try.prog 3) mb (c + 1) (D.put (.int .i64 x) (.lit (.int .i64 1)))) :
    MapU w' mb (c + 1) (fun m => U m || m == x) := by
  refine ⟨_, hn, fun m => ?_⟩
  by_cases h : m = x
  · subst h
    rw [atKey_put_same hm (by trivial)]
    simp
  · rw [atKey_put_other (fun e => h (by simpa using e)), h2]
    simp [h]
/-- the numbers of the first k refs -/
def numB (rs : List Rf) (k : Nat) (m : Int) : Bool := (rs.take k).any (fun r => r.1 == m)
theorem numB_zero (rs : List Rf) : numB rs 0 = fun _ => false := by funext m; simp [numB]
theorem numB_succ {rs : List Rf} {k : Nat} {r : Rf} (h : rs[k]? = some r) : numB rs (k + 1) = fun m => numB rs k m || m == r.1 := by
  funext m
  have hk : k < rs.length := (List.getElem?_eq_some_iff.1 h).1
  have e : rs[k] = r := by rw [List.getElem?_eq_getElem hk] at h; exact Option.some.inj h
  unfold numB
  rw [List.take_succ_eq_append_getElem hk, List.any_append, e]
  simp [BEq.comm (a := m)]
theorem cntLe (P : Nat → Bool) : ∀ k, cnt k P ≤ k
  | 0 => Nat.le_refl _
  | k + 1 => by have := cntLe P k; rw [cnt_succ]; split <;> omega
theorem live60 {n : Nat} (ps : List Pt) (h : n ≤ 60) : (liveM n ps).length ≤ 60 := by rw [liveM_len]; exact Nat.le_trans (cntLe _ _) h
theorem numB_live (n : Nat) (ps : List Pt) (m : Nat) : numB (liveM n ps) (liveM n ps).length (m : Int) = (decide (1 ≤ m) && decide (m ≤ n) && (slotOf ps m).2) := by
  unfold numB
  rw [List.take_of_length_le (Nat.le_refl _)]
  rw [Bool.eq_iff_iff]
  unfold liveM
  simp only [List.any_map, List.any_filter, List.any_eq_true, List.mem_range, Bool.and_eq_true, decide_eq_true_eq, Function.comp, beq_iff_eq]
  constructor
  · rintro ⟨i, hi, h1, h2⟩
    obtain rfl : i + 1 = m := by omega
    exact ⟨⟨by omega, by omega⟩, h1⟩
  · rintro ⟨⟨h1, h2⟩, h3⟩
    exact ⟨m - 1, by omega, by rw [show m - 1 + 1 = m by omega]; exact h3, by omega⟩
set_option maxRecDepth 100000 in
set_option maxHeartbeats 4000000 in
theorem lawFirst (C : ArC) (sl : Int) (v : Value) (ds : List DoD) (w : World) (hv : DosV w v ds) :
    Calls Try.prog 8 #[.int .i64 sl, v] w fun ev w' => ev = .returned (.bool true) ∧ Below w.heap.size w w' := by
  have hnot : ∀ (x : Bool) (w : World), (Op.unary .not (.bool x)).run Try.prog w = .ok (.bool (!x)) w := fun _ _ => rfl
  have V := Lib.hid hv
  obtain ⟨va, vc, rfl, hlc, hcm⟩ := hv.1.lenform
  obtain ⟨N, hN⟩ : ∃ n, ds.length = n := ⟨_, rfl⟩
  have LN := Lib.hid hN
  rw [hN] at V hlc ⊢
  unfold maxLen at hcm
  clear hv hN
  go_enter Try.func8, Try.ntmps8
  go_wp2_with fail
  refine (few_any sl _ ds _ V.out).mono ?_
  rintro ev w1 ⟨rfl, hs⟩
  have B1 := Lib.hid hs
  clear hs
  cases hf : fewD sl ds with
  | false =>
    go_wp2_with fail
    refine (awakeA C _).mono ?_
    rintro ev w2 ⟨rfl, hs⟩
    have B2 := Lib.hid (B1.out.trans (hs.mono B1.out.size))
    clear hs
    go_wp2
    go_ret
    exact ⟨rfl, B2.out⟩
  | true =>
    have F := Lib.hid hf
    clear hf
    by_cases h1 : sl < 1
    · go_wp2_with fail
      refine (awakeA C _).mono ?_
      rintro ev w2 ⟨rfl, hs⟩
      have B2 := Lib.hid (B1.out.trans (hs.mono B1.out.size))
      clear hs
      go_wp2
      go_ret
      exact ⟨rfl, B2.out⟩
    · by_cases h2 : 60 < sl
      · go_wp2_with fail
        refine (awakeA C _).mono ?_
        rintro ev w2 ⟨rfl, hs⟩
        have B2 := Lib.hid (B1.out.trans (hs.mono B1.out.size))
        clear hs
        go_wp2
        go_ret
        exact ⟨rfl, B2.out⟩
      · obtain ⟨n, rfl⟩ : ∃ n : Nat, sl = n := ⟨sl.toNat, by omega⟩
        have ok := Lib.hid (show okN (n : Int) ((1099511627776 : Nat) : Int) = true by unfold okN; simp; omega)
        have n1 : n ≤ 60 := by omega
        have NN := Lib.hid (okD_len F.out)
        go_wp2_with fail
        refine (C.new n 1099511627776 _ ok.out).mono ?_
        rintro ev w2 ⟨a, S1, rfl, hI, hS, hs⟩
        have A1 := Lib.hid (show Ar C w w2 a S1 n 1099511627776 [] from ⟨hI, fun k hk => Nat.le_trans B1.out.size (hS k hk), B1.out.trans (hs.mono B1.out.size)⟩)
        clear hI hS hs ok
        go_wp2
        have hmm := @run_makeMap Try.prog
        go_loopg [31] N (fun r i wz => ∃ (k : Nat) (S : Nat → Prop) (ps : List Pt), k + r = N ∧ i = .int .i64 k ∧ Ar C w wz a S n 1099511627776 ps ∧ Valid n ps ∧ Young k ps)
        case atStart => exact ⟨0, S1, [], by omega, rfl, A1.out, Valid.nil n, Young.nil⟩
        case round =>
          obtain ⟨wo, hwo⟩ : ∃ x, x = wr := ⟨_, rfl⟩
          subst hwo
          obtain ⟨go, hgo⟩ : ∃ x, x = gk := ⟨_, rfl⟩
          subst hgo
          obtain ⟨k, S, ps, hk, rfl, hA, hV, hY⟩ := hrel
          have A := Lib.hid (show Ar C w wo a S n 1099511627776 ps ∧ Valid n ps ∧ Young k ps ∧ k + go = N from ⟨hA, hV, hY, hk⟩)
          clear hA hV hY
          by_cases hlt : k < N
          · have KN := Lib.hid (show k < 60 by have := NN.out; have := LN.out; omega)
            obtain ⟨b, off, ha⟩ := V.out.1.addr (by rw [LN.out]; omega)
            subst ha
            obtain ⟨d, hx⟩ : ∃ d, ds[k]? = some d := ⟨_, List.getElem?_eq_getElem (by rw [LN.out]; exact hlt)⟩
            have hrng : wo.rangeAt b (off + k * 20) d.cells := fun j v hj => cell_step (V.out.1.cellAt (j := j) hx hj) A.out.1.low
            have M := Lib.hid (show d ∈ ds from List.mem_of_getElem? hx)
            clear hx
            go_wp2_with (first
              | (refine wpList_load_mid rfl 38 (.tmp 33) rfl b (off + k * 20) rfl d.cells _ hrng Try.underlying38 rfl (by kernel_rfl) ?_)
              | (refine wpList_store_mid rfl 38 (.tmp 7) (.tmp 34) rfl wo.heap.size 0 d.cells.toArray rfl rfl (there_new wo _ _) (by kernel_rfl) (all_oneCell_toArray d.cells_one) ?_
                 generalize hw2 : World.setCells _ _ _ _ = w3
                 have hq := Lib.hid (show Below wo.heap.size wo w3 ∧ w3.rangeAt wo.heap.size 0 d.cells by rw [← hw2]; exact put_new wo _ _ d.cells rfl)
                 clear hw2))
            have bm := alloc_below0 w3 (.map #[] 0)
            have D4 := Lib.hid ((DB.of_range hq.out.2).step bm)
            have A3 := Lib.hid (A.out.1.step hq.out.1)
            have A4 := Lib.hid (A3.out.step bm)
            have MS := Lib.hid (show ¬ S w3.heap.size ∧ wo.heap.size < w3.heap.size ∧ w.heap.size ≤ w3.heap.size from ⟨fun h => Nat.lt_irrefl _ (C.foot A3.out.inv _ h), lt_of_cell (DB.of_range hq.out.2).c0, A3.out.low.size⟩)
            have U4 := Lib.hid (MapU.made w3)
            clear hq hrng bm
            refine (C.live a S n 1099511627776 ps _ A4.out.inv).mono ?_
            rintro ev w5 ⟨lv, rfl, hlv, hs⟩
            obtain ⟨la, lc, rfl, -, -⟩ := hlv.sv.lenform
            have D5 := Lib.hid (D4.out.step hs)
            have A5 := Lib.hid (A4.out.step hs)
            have U5 := Lib.hid (U4.out.low hs)
            have L5 := Lib.hid (hlv.mono (b' := w3.heap.size + 1) (by simp))
            have LL := Lib.hid (live60 ps n1)
            obtain ⟨lw, hlw⟩ : ∃ x, (liveM n ps).length = x := ⟨_, rfl⟩
            have LW := Lib.hid hlw
            rw [hlw] at L5 LL ⊢
            clear hs hlv D4 A4 U4 hlw
            go_wp2
            obtain ⟨rs, hrs⟩ : ∃ rs, liveM n ps = rs := ⟨_, rfl⟩
            have RS := Lib.hid hrs
            rw [hrs] at L5 LW
            clear hrs
            go_loopg [39] lw (fun r y wz => ∃ (j c : Nat), j + r = lw ∧ y = .int .i64 j ∧ c ≤ j ∧ MapU wz w3.heap.size c (numB rs j) ∧ Ar C w wz a S n 1099511627776 ps ∧ Kept (fun x => x = w3.heap.size) w5 wz)
            case atStart => exact ⟨0, 0, by omega, rfl, Nat.le_refl _, by rw [numB_zero]; exact U5.out, A5.out, Kept.refl _ _⟩
            case round =>
              obtain ⟨j, c, hj, rfl, hcj, hU, hAr, hKp⟩ := hrel
              have E := Lib.hid (show c ≤ j ∧ j + gk = lw ∧ Kept (fun x => x = w3.heap.size) w5 wr from ⟨hcj, hj, hKp⟩)
              have U6 := Lib.hid hU
              have A6 := Lib.hid hAr
              have D6 := Lib.hid (D5.out.kept E.out.2.2 (by have := MS.out.2.1; omega))
              have L6 := Lib.hid (L5.out.kept E.out.2.2 (fun x m cc hv hs => by have := (L5.out.bounds x.block (by rw [hv]; rfl)).1; omega))
              clear hcj hj hKp hU hAr
              by_cases hjl : j < lw
              · have JB : j < 60 := by have := LL.out; omega
                obtain ⟨g, hga⟩ := L6.out.addrN (by omega)
                subst hga
                obtain ⟨⟨p, q⟩, hx⟩ : ∃ x, rs[j]? = some x := ⟨_, List.getElem?_eq_getElem (by rw [LW.out]; exact hjl)⟩
                have x0 := L6.out.sv.cellAt (j := 0) hx rfl
                have x1 := L6.out.sv.cellAt (j := 1) hx rfl
                simp only [lRef, Nat.zero_add, Nat.add_zero] at x0 x1
                have bz := alloc_below0 wr (.cells #[.int .i64 p, .int .i64 q] 34)
                obtain ⟨D, hD1, hD2⟩ := U6.out.low bz
                have DM := Lib.hid (show IsMap D ∧ _ from ⟨hD1.isMap, hD2⟩)
                have OW := Lib.hid hD1
                have PB := Lib.hid (show 1 ≤ p ∧ p ≤ 60 by
                  have hm : (p, q) ∈ rs := List.mem_of_getElem? hx
                  rw [← RS.out] at hm
                  unfold liveM at hm
                  obtain ⟨i, hi, he⟩ := List.mem_map.1 hm
                  have := List.mem_range.1 (List.mem_filter.1 hi).1
                  have := (Prod.mk.inj he).1
                  omega)
                have NS := Lib.hid (numB_succ hx)
                have A7 := Lib.hid (A6.out.step bz)
                have K7 := Lib.hid (E.out.2.2.trans (Kept.of_below (S := fun x => x = w3.heap.size) bz))
                have j3 : (0 : Int) ≤ (j : Int) := by omega
                have j4 : (j : Int) < (lw : Int) := by omega
                clear hD1 hD2 hx bz
                go_wp2_with (at_mapUpdate; refine wpList_mapUpdate_own _ rfl _ _ _ 44 rfl 3 3 keyI Try.underlying44 _ w3.heap.size c _ rfl OW.out (by have := E.out.1; have := LL.out; unfold maxLen; omega) _ _ _ rfl rfl (keyOf_int_mk Try.underlying3 (wfI (by have := PB.out; omega) (by have := PB.out; omega))) _ [] (plainElem_int Try.underlying3 (by decide)) ?_; intro w8 hown8 hgrow8)
                have kg : Kept (fun x => x = w3.heap.size) (wr.alloc (.cells #[.int .i64 p, .int .i64 q] 34)) w8 := (Kept.of_grown hgrow8).wide (fun _ _ h => Option.some.inj h)
                have U8 := Lib.hid (MapU.put DM.out.1 DM.out.2 hown8)
                have A8 := Lib.hid (A7.out.kept kg MS.out.1 MS.out.2.2)
                have K8 := Lib.hid (K7.out.trans kg)
                clear hown8 hgrow8 kg
                go_roundg (lw - (j + 1))
                case measure => have := E.out.2.1; omega
                case rel => exact ⟨j + 1, c + 1, by omega, by go_num, by have := E.out.1; omega, by rw [NS.out]; exact U8.out, A8.out, K8.out⟩
              · obtain ⟨w9, hw9⟩ : ∃ x, x = wr := ⟨_, rfl⟩
                subst hw9
                obtain ⟨g9, hg9⟩ : ∃ x, x = gk := ⟨_, rfl⟩
                subst hg9
                obtain rfl : j = lw := by have := E.out.2.1; omega
                have UL := Lib.hid (show ∀ m : Nat, numB rs j (m : Int) = (decide (1 ≤ m) && decide (m ≤ n) && (slotOf ps m).2) from fun m => by
                  have h := numB_live n ps m
                  rw [RS.out, LW.out] at h; exact h)
                go_wp2
                obtain ⟨D, hD1, hD2⟩ := U6.out
                have OW := Lib.hid hD1
                have DA := Lib.hid hD2
                clear hD1 hD2
                go_loopg [11] (n + 1) (fun r y wz => ∃ t : Nat, t + r = n + 1 + 1 ∧ 1 ≤ t ∧ y = .int .i64 t ∧ (∀ x, 1 ≤ x → x < t → (slotOf ps x).2 = true) ∧ wz = w9)
                case atStart => exact ⟨1, by omega, Nat.le_refl _, rfl, fun x h1 h2 => by omega, rfl⟩
                case round =>
                  obtain ⟨t, ht, ht1, rfl, hall, rfl⟩ := hrel
                  have T := Lib.hid (show t + gk = n + 1 + 1 ∧ 1 ≤ t ∧ ∀ x, 1 ≤ x → x < t → (slotOf ps x).2 = true from ⟨ht, ht1, hall⟩)
                  have tb : t ≤ 62 := by omega
                  have tb1 : 1 ≤ t := ht1
                  clear hall ht ht1
                  cases hU : numB rs j (t : Int) with
                  | true =>
                    have TU := Lib.hid (show t ≤ n ∧ (slotOf ps t).2 = true by
                      have h := UL.out t
                      rw [hU] at h
                      have h := h.symm
                      simp only [Bool.and_eq_true, decide_eq_true_eq] at h
                      exact ⟨h.1.2, h.2⟩)
                    have tn : t ≤ n := TU.out.1
                    go_wp2_with (at_lookup; refine wpList_lookup_own_int _ rfl _ _ 44 rfl 3 3 .i64 keyI Try.underlying44 Try.underlying3 (zeroI _) w3.heap.size c D rfl OW.out _ _ rfl (keyOf_int_mk Try.underlying3 (wfI (by omega) (by omega))) ?_; intro cc hat hwc; obtain rfl : cc = 1 := (by rw [DA.out, hU] at hat; simpa [eq_comm] using hat); clear hat hwc)
                    go_roundg (n + 1 + 1 - (t + 1))
                    case measure => have := T.out.1; omega
                    case rel =>
                      refine ⟨t + 1, by omega, by omega, by go_num, fun x h1 h2 => ?_, rfl⟩
                      by_cases e : x = t
                      · rw [e]; exact TU.out.2
                      · exact T.out.2.2 x h1 (by omega)
                  | false =>
                    have TU := Lib.hid (show t ≤ n → (slotOf ps t).2 = false from fun hle => by
                      have h := UL.out t
                      rw [hU, decide_eq_true T.out.2.1, decide_eq_true hle] at h
                      simpa using h.symm)
                    have v0 := D6.out.c0
                    by_cases hvb : d.verb = 0
                    · rw [hvb] at v0
                      have hrec := D6.out.recd
                      have RV := Lib.hid (show RecV wr (.agg (recL d.sc (.slice d.ra d.rows.length d.rc) (.slice d.ea d.ents.length d.ec)).toArray) d.rcd from ⟨_, _, rfl, (V.out.2 d M.out).1.below A6.out.low, (V.out.2 d M.out).2.below A6.out.low⟩)
                      have LR := Lib.hid (show d.rcd.rows.length ≤ 1000 ∧ d.rcd.ents.length ≤ 1000 from ⟨by have := (okD_in F.out M.out).1; show d.rows.length ≤ 1000; omega, by have := (okD_in F.out M.out).2; show d.ents.length ≤ 1000; omega⟩)
                      rcases alloc_counts d.rcd A.out.2.1 A.out.2.2.1 (show k + 1 < 1099511627776 by have := KN.out; omega) with ⟨i, g, t1, -, -, t4, t5, t6, t7, t8, t9⟩ | ⟨e, t1, t2, -, t4, t5⟩
                      · obtain rfl : i = t := by
                          by_cases h : i < t
                          · have := T.out.2.2 i t7 h
                            rw [this] at t9; cases t9
                          · by_cases h' : t < i
                            · have := t6 t tb1 h'
                              rw [TU.out (by omega)] at this; cases this
                            · omega
                        have T2 := Lib.hid (show allocM n 1099511627776 ps = (i, g, 0) ∧ Valid n (putM n 1099511627776 ps d.rcd) ∧ Young (k + 1) (putM n 1099511627776 ps d.rcd) from ⟨t1, t4, t5⟩)
                        clear t1 t4 t5 t6 t7 t8 t9 hvb
                        go_wp2_with (first
                          | (at_lookup; refine wpList_lookup_own_int _ rfl _ _ 44 rfl 3 3 .i64 keyI Try.underlying44 Try.underlying3 (zeroI _) w3.heap.size c D rfl OW.out _ _ rfl (keyOf_int_mk Try.underlying3 (wfI (by omega) (by omega))) ?_; intro cc hat hwc; obtain rfl : cc = 0 := (by rw [DA.out, hU] at hat; simpa [eq_comm] using hat); clear hat hwc)
                          | (refine wpList_load_mid rfl 36 (.tmp 62) rfl wo.heap.size 1 rfl (recL d.sc (.slice d.ra d.rows.length d.rc) (.slice d.ea d.ents.length d.ec)) _ hrec Try.underlying36 rfl (by kernel_rfl) ?_))
                        refine (alloc_as C a _ S n 1099511627776 ps d.rcd i g 0 i g .nilIface _ _ A6.out.inv RV.out LR.out.1 LR.out.2 T2.out.1 rfl rfl rfl rfl).mono ?_
                        rintro ev w6 ⟨S2, rfl, hI, hk2, hS⟩
                        have A7 := Lib.hid (A6.out.turn hI hk2 hS)
                        have A8 := Lib.hid (A7.out.step (alloc_below0 w6 (.cells #[.int .i64 (i : Int), .int .i64 (g : Int)] 34)))
                        have e6 : ((i : Int) != (i : Int)) = false := by simp
                        clear hI hk2 hS A7 v0 hrec
                        go_wp2
                        go_roundg (N - (k + 1))
                        case measure => have := A.out.2.2.2; omega
                        case rel => exact ⟨k + 1, S2, _, by omega, by go_num, A8.out, T2.out.2.1, T2.out.2.2⟩
                      · have tn : n < t := by
                          by_cases h : t ≤ n
                          · have := t5 t tb1 h
                            rw [TU.out h] at this; cases this
                          · omega
                        have T2 := Lib.hid (show allocM n 1099511627776 ps = (0, 0, e) ∧ errV e = .iface 48 (.int .i64 e) from ⟨t1, by rcases t2 with rfl | rfl <;> rfl⟩)
                        clear t1 t2 t5 hvb
                        go_wp2_with (first
                          | (at_lookup; refine wpList_lookup_own_int _ rfl _ _ 44 rfl 3 3 .i64 keyI Try.underlying44 Try.underlying3 (zeroI _) w3.heap.size c D rfl OW.out _ _ rfl (keyOf_int_mk Try.underlying3 (wfI (by omega) (by omega))) ?_; intro cc hat hwc; obtain rfl : cc = 0 := (by rw [DA.out, hU] at hat; simpa [eq_comm] using hat); clear hat hwc)
                          | (refine wpList_load_mid rfl 36 (.tmp 62) rfl wo.heap.size 1 rfl (recL d.sc (.slice d.ra d.rows.length d.rc) (.slice d.ea d.ents.length d.ec)) _ hrec Try.underlying36 rfl (by kernel_rfl) ?_))
                        refine (alloc_as C a _ S n 1099511627776 ps d.rcd 0 0 e 0 0 (.iface 48 (.int .i64 e)) ps _ A6.out.inv RV.out LR.out.1 LR.out.2 T2.out.1 t4 rfl rfl T2.out.2).mono ?_
                        rintro ev w6 ⟨S2, rfl, hI, hk2, hS⟩
                        have A7 := Lib.hid (A6.out.turn hI hk2 hS)
                        have A8 := Lib.hid (A7.out.step (alloc_below0 w6 (.cells #[.int .i64 0, .int .i64 0] 34)))
                        have e6 : ¬ (t : Int) ≤ (n : Int) := by omega
                        clear hI hk2 hS A7 v0 hrec
                        go_wp2
                        go_roundg (N - (k + 1))
                        case measure => have := A.out.2.2.2; omega
                        case rel => exact ⟨k + 1, S2, _, by omega, by go_num, A8.out, A.out.2.1, A.out.2.2.1.mono (Nat.le_succ k)⟩
                    · have v16 := D6.out.c16
                      have v17 := D6.out.c17
                      have hvb2 : (d.verb == 0) = false := by simp [hvb]
                      have hvb3 : (d.verb != 0) = true := by simp [hvb]
                      obtain ⟨e, he⟩ : ∃ e, codeM n ps d.x d.y = e := ⟨_, rfl⟩
                      have T2 := Lib.hid (show codeM n ps d.x d.y = e ∧ Valid n (freeM n ps d.x d.y) ∧ Young k (freeM n ps d.x d.y) by
                        refine ⟨he, ?_⟩
                        rcases free_counts (n := n) A.out.2.1 A.out.2.2.1 (show k < 1099511627776 by have := KN.out; omega) d.x d.y with ⟨t1, t2, t3, t4, t5⟩ | ⟨t1, t2⟩
                        · exact ⟨t4, t5⟩
                        · rw [t2]; exact ⟨A.out.2.1, A.out.2.2.1⟩)
                      clear hvb he
                      go_wp2_with (at_lookup; refine wpList_lookup_own_int _ rfl _ _ 44 rfl 3 3 .i64 keyI Try.underlying44 Try.underlying3 (zeroI _) w3.heap.size c D rfl OW.out _ _ rfl (keyOf_int_mk Try.underlying3 (wfI (by omega) (by omega))) ?_; intro cc hat hwc; obtain rfl : cc = 0 := (by rw [DA.out, hU] at hat; simpa [eq_comm] using hat); clear hat hwc)
                      refine (free_as C a S n 1099511627776 ps d.x d.y e (errV e) _ _ A6.out.inv T2.out.1 rfl rfl).mono ?_
                      rintro ev w6 ⟨S2, rfl, hI, hk2, hS⟩
                      have A7 := Lib.hid (A6.out.turn hI hk2 hS)
                      clear hI hk2 hS v0 v16 v17
                      go_wp2
                      go_roundg (N - (k + 1))
                      case measure => have := A.out.2.2.2; omega
                      case rel => exact ⟨k + 1, S2, _, by omega, by go_num, A7.out, T2.out.2.1, T2.out.2.2.mono (Nat.le_succ k)⟩
          · go_wp2_with fail
            refine (awakeA C _).mono ?_
            rintro ev w3 ⟨rfl, hs⟩
            have B3 := Lib.hid (A.out.1.low.trans (hs.mono A.out.1.low.size))
            clear hs
            go_wp2
            go_ret
            exact ⟨rfl, B3.out⟩
end Go.Proofs.Ytkokpbkpmhhemaa
