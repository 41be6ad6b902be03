/- The walk of the law ArenaOnce, out of package arena's contracts. -/
import Derived.Test.YtkokpbkpmhhemaaArOn
import Derived.Deep.CutRange
namespace Go.Proofs.Ytkokpbkpmhhemaa
open Go.RowKit Go.Maps

/-- a block that holds a ref -/
def XK (b : Nat) (p q : Int) (w : World) : Prop := w.heap[b]? = some (.cells #[.int .i64 p, .int .i64 q] 34 (0, 0))
theorem XK.cell {b : Nat} {p q : Int} {w : World} (h : XK b p q w) (o : Nat) : w.cell? ⟨b, o, none⟩ = (#[.int .i64 p, .int .i64 q] : Array Value)[o]? := by unfold XK at h; simp [World.cell?, h]
theorem XK.free {b : Nat} {p q : Int} {w : World} (h : XK b p q w) (o : Nat) : w.frozen? ⟨b, o, none⟩ = false := by unfold XK at h; simp [World.frozen?, h]
theorem XK.kept {b : Nat} {p q : Int} {S : Nat → Prop} {w w' : World} (h : XK b p q w) (hk : Kept S w w') (hn : ¬ S b) : XK b p q w' := (hk.block b (Array.getElem?_eq_some_iff.1 h).1 hn).trans h
theorem XK.step {b : Nat} {p q : Int} {w w' : World} (h : XK b p q w) (hs : Below w.heap.size w w') : XK b p q w' := (hs.block b (Array.getElem?_eq_some_iff.1 h).1).trans h
theorem XK.set {b : Nat} {p q : Int} {w : World} (h : XK b p q w) (x y : Int) : XK b x y ((w.setCell ⟨b, 0, none⟩ (.int .i64 x)).setCell ⟨b, 1, none⟩ (.int .i64 y)) := by
  unfold XK at h ⊢
  simp [World.setCell, Array.getElem?_modify, h]
/-- what is known of the refs at a round's head -/
structure Rd (n l : Nat) (ps : List Pt) (L G : Mp) (told : List Rf) (k : Nat) : Prop where
  val : Valid n ps
  ord : Ord l ps
  hl : ∀ p q, L.U p q = liveB ps p q
  hg : ∀ p q, G.U p q = goneB ps p q
  hs : L.sz = (liveM n ps).length
  tl : told.length ≤ k
  cl : L.c ≤ k
  cg : G.c ≤ k
theorem Rd.next {n l k : Nat} {ps : List Pt} {L G : Mp} {told : List Rf} (h : Rd n l ps L G told k) : Rd n l ps L G told (k + 1) := ⟨h.val, h.ord, h.hl, h.hg, h.hs, Nat.le_succ_of_le h.tl, Nat.le_succ_of_le h.cl, Nat.le_succ_of_le h.cg⟩
set_option maxRecDepth 100000 in
set_option maxHeartbeats 4000000 in
theorem lawOnce (C : ArC) (sl la : Int) (v : Value) (ds : List DoD) (w : World) (hv : DosV w v ds) (hnn : ∀ d ∈ ds, 0 ≤ d.nn ∧ d.nn < 256) :
    Calls Try.prog 3 #[.int .i64 sl, .int .i64 la, v] w fun ev w' => ev = .returned (.bool true) ∧ Below w.heap.size w w' := by
  have hnot : ∀ (x : Bool) (w : World), (Op.unary .not (.bool x)).run Try.prog w = .ok (.bool (!x)) w := fun _ _ => rfl
  have V := Lib.hid hv
  obtain ⟨va, vc, rfl, hlc, hcm⟩ := hv.1.lenform
  obtain ⟨N, hN⟩ : ∃ n, ds.length = n := ⟨_, rfl⟩
  have LN := Lib.hid hN
  have UN := Lib.hid hnn
  rw [hN] at V hlc ⊢
  unfold maxLen at hcm
  clear hv hN hnn
  go_enter Try.func3, Try.ntmps3
  go_wp2_with fail
  refine (few_any sl _ ds _ V.out).mono ?_
  rintro ev w1 ⟨rfl, hs⟩
  have B1 := Lib.hid hs
  clear hs
  cases hf : fewD sl ds with
  | false =>
    go_wp2_with fail
    refine (awakeA C _).mono ?_
    rintro ev w2 ⟨rfl, hs⟩
    have B2 := Lib.hid (B1.out.trans (hs.mono B1.out.size))
    clear hs
    go_wp2
    go_ret
    exact ⟨rfl, B2.out⟩
  | true =>
    have F := Lib.hid hf
    clear hf
    cases hok : okN sl la with
    | false =>
      go_wp2_with fail
      refine (C.newNo sl la _ hok).mono ?_
      rintro ev w2 ⟨rfl, hs⟩
      have B2 := Lib.hid (B1.out.trans (hs.mono B1.out.size))
      clear hs hok
      go_wp2_with fail
      refine (awakeA C _).mono ?_
      rintro ev w3 ⟨rfl, hs⟩
      have B3 := Lib.hid (B2.out.trans (hs.mono B2.out.size))
      clear hs
      go_wp2
      go_ret
      exact ⟨rfl, B3.out⟩
    | true =>
      obtain ⟨n, rfl⟩ : ∃ n : Nat, sl = n := ⟨sl.toNat, by unfold okN at hok; simp at hok; omega⟩
      obtain ⟨l, rfl⟩ : ∃ l : Nat, la = l := ⟨la.toNat, by unfold okN at hok; simp at hok; omega⟩
      have ok := Lib.hid hok
      have hb : 1 ≤ n ∧ n ≤ 4096 ∧ 1 ≤ l ∧ l ≤ 1099511627776 := by unfold okN at hok; simp at hok; omega
      have n1 : n ≤ 60 := by
        have h := F.out
        unfold fewD at h
        simp only [Bool.and_eq_true, Bool.or_eq_true, decide_eq_true_eq] at h
        omega
      have NN := Lib.hid (okD_len F.out)
      clear hok
      go_wp2_with fail
      refine (C.new n l _ ok.out).mono ?_
      rintro ev w2 ⟨a, S1, rfl, hI, hS, hs⟩
      have A1 := Lib.hid (show Ar C w w2 a S1 n l [] from ⟨hI, fun k hk => Nat.le_trans B1.out.size (hS k hk), B1.out.trans (hs.mono B1.out.size)⟩)
      clear hI hS hs ok
      have hmm := @run_makeMap Try.prog
      have m1 := alloc_below0 w2 (.map #[] 0)
      have m2 := alloc_below0 (w2.alloc (.map #[] 0)) (.map #[] 0)
      have z1 : (w2.alloc (.map #[] 0)).heap.size = w2.heap.size + 1 := by simp
      have z2 : ((w2.alloc (.map #[] 0)).alloc (.map #[] 0)).heap.size = w2.heap.size + 2 := by simp
      have O2 := Lib.hid (show On C w ((w2.alloc (.map #[] 0)).alloc (.map #[] 0)) a w2.heap.size S1 n l [] ⟨fun _ _ => false, 0, 0, .map []⟩ ⟨fun _ _ => false, 0, 0, .map []⟩ (.slice none 0 0) [] from
        ⟨(A1.out.step m1).step m2, (MapD.made w2).low m2, (by have h := MapD.made (w2.alloc (.map #[] 0)); rw [z1] at h; exact h), OwnS.nil _ _ _, (fun r h => by cases h), fun h => Nat.lt_irrefl _ (C.foot A1.out.inv _ h), (fun h => by have := C.foot A1.out.inv _ h; omega), (fun k h => by cases h), A1.out.low.size, (by rw [z2]; exact Nat.le_refl _)⟩)
      have R2 := Lib.hid (show Rd n l [] ⟨fun _ _ => false, 0, 0, .map []⟩ ⟨fun _ _ => false, 0, 0, .map []⟩ [] 0 from ⟨Valid.nil n, Ord.nil l, fun _ _ => rfl, fun _ _ => rfl, (by rw [liveM_len]; show 0 = ((List.range n).filter _).length; symm; rw [List.length_eq_zero_iff, List.filter_eq_nil_iff]; intro x _; exact Bool.false_ne_true), Nat.le_refl _, Nat.le_refl _, Nat.le_refl _⟩)
      clear m1 m2 z1 z2
      go_wp2
      generalize hlb : w2.heap.size = lb at *
      go_loopg [10, 38] N (fun r tv i wz => ∃ (k : Nat) (S : Nat → Prop) (ps : List Pt) (L G : Mp) (told : List Rf), k + r = N ∧ i = .int .i64 k ∧ On C w wz a lb S n l ps L G tv told ∧ Rd n l ps L G told k)
      case atStart => exact ⟨0, S1, [], _, _, [], by omega, rfl, O2.out, R2.out⟩
      case round =>
        obtain ⟨wo, hwo⟩ : ∃ x, x = wr := ⟨_, rfl⟩
        subst hwo
        obtain ⟨go, hgo⟩ : ∃ x, x = gk := ⟨_, rfl⟩
        subst hgo
        obtain ⟨k, S, ps, L, G, told, hk, rfl, hO, hR⟩ := hrel
        have A := Lib.hid (show On C w wo a lb S n l ps L G u10 told ∧ Rd n l ps L G told k ∧ k + go = N from ⟨hO, hR, hk⟩)
        obtain ⟨ta, tc, rfl, htc, -⟩ := hO.own.sv.lenform
        obtain ⟨tl, htl⟩ : ∃ x, told.length = x := ⟨_, rfl⟩
        have TL := Lib.hid htl
        rw [htl] at A ⊢
        clear hO hR htl htc
        by_cases hlt : k < N
        · have KN : k < 60 := by have := NN.out; have := LN.out; omega
          obtain ⟨b, off, ha⟩ := V.out.1.addr (by rw [LN.out]; omega)
          subst ha
          obtain ⟨d, hx⟩ : ∃ d, ds[k]? = some d := ⟨_, List.getElem?_eq_getElem (by rw [LN.out]; exact hlt)⟩
          have hrng : wo.rangeAt b (off + k * 20) d.cells := fun j v hj => cell_step (V.out.1.cellAt (j := j) hx hj) A.out.1.ar.low
          have M := Lib.hid (show d ∈ ds from List.mem_of_getElem? hx)
          clear hx
          go_upto_region 11 with (first
            | (refine wpList_load_mid rfl 38 (.tmp 40) rfl b (off + k * 20) rfl d.cells _ hrng Try.underlying38 rfl (by kernel_rfl) ?_)
            | (refine wpList_store_mid rfl 38 (.tmp 12) (.tmp 41) rfl wo.heap.size 0 d.cells.toArray rfl rfl (there_new wo _ _) (by kernel_rfl) (all_oneCell_toArray d.cells_one) ?_
               generalize hw2 : World.setCells _ _ _ _ = w3
               have hq := Lib.hid (show Below wo.heap.size wo w3 ∧ w3.rangeAt wo.heap.size 0 d.cells by rw [← hw2]; exact put_new wo _ _ d.cells rfl)
               clear hw2))
          have bx := alloc_below0 w3 (.cells #[.int .i64 d.x, .int .i64 d.y] 34)
          have D3 := DB.of_range hq.out.2
          have v16 := D3.c16
          have v17 := D3.c17
          have D4 := Lib.hid (D3.step bx)
          have O4 := Lib.hid ((A.out.1.step hq.out.1).step bx)
          have X4 := Lib.hid (show XK w3.heap.size d.x d.y _ from heap_alloc_new w3 _)
          have BL := Lib.hid (show wo.heap.size < w3.heap.size ∧ ¬ S wo.heap.size ∧ ¬ S w3.heap.size ∧ lb + 2 ≤ wo.heap.size from ⟨lt_of_cell D3.c0, fun h => Nat.lt_irrefl _ (C.foot A.out.1.ar.inv _ h), fun h => Nat.lt_irrefl _ (C.foot (A.out.1.step hq.out.1).ar.inv _ h), A.out.1.size⟩)
          clear hrng hq D3
          go_upto_region 12 with fail
          generalize hw4 : w3.alloc (.cells #[.int .i64 d.x, .int .i64 d.y] 34) = w4 at *
          clear hw4 v16 v17 bx
          have v18 := D4.out.c18
          go_cut [50] from 44 to 50 (fun s50 wc => s50 = .bool (d.last && decide (0 < tl)) ∧ wc = w4)
          case first =>
            cases hl : d.last with
            | false =>
              rw [hl] at v18
              go_wp2
              go_meet
              case rel => exact ⟨by rw [hl]; rfl, rfl⟩
            | true =>
              rw [hl] at v18
              by_cases ht : 0 < tl
              · have ht2 : (0 : Int) < (tl : Int) := by omega
                go_wp2
                go_meet
                case rel => exact ⟨by simp [hl, ht], rfl⟩
              · have ht2 : ¬ (0 : Int) < (tl : Int) := by omega
                go_wp2
                go_meet
                case rel => exact ⟨by simp [hl, ht], rfl⟩
          case rest =>
            obtain ⟨rfl, rfl⟩ := hcut
            obtain ⟨w5, hw5⟩ : ∃ x, x = wc := ⟨_, rfl⟩
            subst hw5
            clear v18
            go_upto_if 50 with fail
            go_cut [] from 39 to 166 (fun wc => ∃ px py : Int, On C w wc a lb S n l ps L G (.slice ta tl tc) told ∧ DB wo.heap.size d.verb d.sc (.slice d.ra d.rows.length d.rc) (.slice d.ea d.ents.length d.ec) d.x d.y d.last d.nn wc ∧ XK w3.heap.size px py wc)
            case first =>
              cases hB : (d.last && decide (0 < tl)) with
              | false =>
                go_wp2
                go_meet
                case rel => exact ⟨d.x, d.y, O4.out, D4.out, X4.out⟩
              | true =>
                have ht : 0 < tl := by
                  simp only [Bool.and_eq_true, decide_eq_true_eq] at hB
                  exact hB.2
                obtain ⟨m, hm⟩ : ∃ m : Nat, d.nn = m := ⟨d.nn.toNat, by have := UN.out d M.out; omega⟩
                have v19 := D4.out.c19
                rw [hm] at v19
                have mb : m < 256 := by have := (UN.out d M.out).2; omega
                have tb : tl ≤ 60 := by have := A.out.2.1.tl; have := TL.out; omega
                have hml : m % tl < tl := Nat.mod_lt _ ht
                obtain ⟨gt, hgt⟩ := O4.out.own.addrN (n := tl) (by omega)
                subst hgt
                have f0 := X4.out.free 0
                have f1 := X4.out.free 1
                obtain ⟨⟨p, q⟩, hpq⟩ : ∃ x, told[tl - 1 - m % tl]? = some x := ⟨_, List.getElem?_eq_getElem (by rw [TL.out]; omega)⟩
                have x0 := O4.out.own.sv.cellAt (j := 0) hpq rfl
                have x1 := O4.out.own.sv.cellAt (j := 1) hpq rfl
                simp only [lRef, Nat.zero_add, Nat.add_zero] at x0 x1
                have NB := Lib.hid (show ∀ k, (Value.slice (some ⟨gt, 0, none⟩) tl tc).ownBlock = some k → k ≠ w3.heap.size from fun k hk => by have := (A.out.1.own.bounds k hk).2; have := BL.out.1; omega)
                have q0 := X4.out.cell 0
                have q1 := X4.out.cell 1
                clear hm hpq
                go_wp2
                go_meet
                case rel =>
                  have kx := ((Kept.refl (fun k => k = w3.heap.size) w5).setCell 0 (.int .i64 p)).setCell 1 (.int .i64 q)
                  exact ⟨p, q, O4.out.other kx BL.out.2.2.1 (by have := BL.out; omega) (by have := BL.out; omega) (by have := BL.out; have := A.out.1.base; omega) NB.out, D4.out.kept kx (by have := BL.out.1; omega), X4.out.set p q⟩
            case rest =>
              obtain ⟨px, py, hO5, hD5, hX5⟩ := hcut
              obtain ⟨w6, hw6⟩ : ∃ x, x = wc := ⟨_, rfl⟩
              subst hw6
              have O5 := Lib.hid hO5
              have D5 := Lib.hid hD5
              have X5 := Lib.hid hX5
              have v0 := D5.out.c0
              have XS := Lib.hid (show ¬ S w3.heap.size from BL.out.2.2.1)
              clear hO5 hD5 hX5 O4 D4 X4
              go_upto_if 66 with fail
              go_cut [10] from 39 to 166 (fun tv wc => ∃ (S2 : Nat → Prop) (ps2 : List Pt) (L2 G2 : Mp) (told2 : List Rf), On C w wc a lb S2 n l ps2 L2 G2 tv told2 ∧ Rd n l ps2 L2 G2 told2 (k + 1))
              case first =>
                by_cases hvb : d.verb = 0
                · have hvt : (d.verb == 0) = true := by simp [hvb]
                  have hrec := D5.out.recd
                  have RV := Lib.hid (show RecV w6 (.agg (recL d.sc (.slice d.ra d.rows.length d.rc) (.slice d.ea d.ents.length d.ec)).toArray) d.rcd from ⟨_, _, rfl, (V.out.2 d M.out).1.below O5.out.ar.low, (V.out.2 d M.out).2.below O5.out.ar.low⟩)
                  have LR := Lib.hid (show d.rcd.rows.length ≤ 1000 ∧ d.rcd.ents.length ≤ 1000 from ⟨by have := (okD_in F.out M.out).1; show d.rows.length ≤ 1000; omega, by have := (okD_in F.out M.out).2; show d.ents.length ≤ 1000; omega⟩)
                  clear hvb v0
                  rcases put_refs d.rcd A.out.2.1.val A.out.2.1.ord with ⟨i, g, t1, t2, t3, t4, t5, t6, t7, t8, t9, t10, t11, t12⟩ | ⟨e, t1, t2, t3⟩
                  · have T := Lib.hid (show _ ∧ _ ∧ _ ∧ _ ∧ _ ∧ _ from ⟨t1, t8, t9, t10, t11, t12⟩)
                    have wi : wf64 (i : Int) := wf64_of (by omega) (by omega)
                    have wg : wf64 (g : Int) := wf64_of (by omega) (by omega)
                    have LU := Lib.hid (show L.U (i : Int) (g : Int) = false by rw [A.out.2.1.hl]; exact t6)
                    have GU := Lib.hid (show G.U (i : Int) (g : Int) = false by rw [A.out.2.1.hg]; exact t7)
                    have hatL := O5.out.mL.at1 (i : Int) (g : Int) wi wg
                    rw [LU.out] at hatL
                    have hatG := O5.out.mG.at1 (i : Int) (g : Int) wi wg
                    rw [GU.out] at hatG
                    have HL := Lib.hid hatL
                    have HG := Lib.hid hatG
                    have c1 : ¬ (i : Int) < 1 := by omega
                    have c2 : ¬ (n : Int) < (i : Int) := by omega
                    have c3 : ¬ (g : Int) < 1 := by omega
                    have c4 : ¬ (l : Int) < (g : Int) := by omega
                    clear t1 t2 t3 t4 t5 t6 t7 t8 t9 t10 t11 t12 hatL hatG
                    go_wp2_with (refine wpList_load_mid rfl 36 (.tmp 69) rfl wo.heap.size 1 rfl (recL d.sc (.slice d.ra d.rows.length d.rc) (.slice d.ea d.ents.length d.ec)) _ hrec Try.underlying36 rfl (by kernel_rfl) ?_)
                    refine (alloc_as C a _ S n l ps d.rcd i g 0 i g .nilIface _ _ O5.out.ar.inv RV.out LR.out.1 LR.out.2 T.out.1 rfl rfl rfl rfl).mono ?_
                    rintro ev w7 ⟨S2, rfl, hI, hk2, hS⟩
                    have O7 := Lib.hid (O5.out.turn hI hk2 hS)
                    have by7 := alloc_below0 w7 (.cells #[.int .i64 (i : Int), .int .i64 (g : Int)] 34)
                    have O8 := Lib.hid (O7.out.step by7)
                    have Y8 := Lib.hid (show XK w7.heap.size i g _ from heap_alloc_new w7 (.cells #[.int .i64 (i : Int), .int .i64 (g : Int)] 34))
                    have y0 := Y8.out.cell 0
                    have y1 := Y8.out.cell 1
                    have YN := Lib.hid (show w7.heap.size ≠ lb by have := O7.out.size; omega)
                    clear hI hk2 hS by7 hrec
                    go_wp2_with (first
                      | (at_lookup; refine wpList_lookupG _ (by rfl) _ _ 27 rfl 34 3 .i64 keyR Try.underlying27 Try.underlying3 (zeroI _) lb L.c L.D rfl O8.out.mL.own _ _ rfl (keyOf_ref wi wg) _ HL.out ?_)
                      | (at_lookup; refine wpList_lookupG _ (by rfl) _ _ 27 rfl 34 3 .i64 keyR Try.underlying27 Try.underlying3 (zeroI _) (lb + 1) G.c G.D rfl O8.out.mG.own _ _ rfl (keyOf_ref wi wg) _ HG.out ?_)
                      | (at_mapUpdate; refine wpList_mapUpdate_own _ rfl _ _ _ 27 rfl 34 3 keyR Try.underlying27 _ lb L.c _ rfl O8.out.mL.own (by have := A.out.2.1.cl; unfold maxLen; omega) _ _ _ rfl rfl (keyOf_ref wi wg) _ [] (plainElem_int Try.underlying3 (by decide)) ?_; intro w9 hown9 hgrow9
                         have O9 := Lib.hid (O8.out.putL wi wg hown9 hgrow9)
                         have Y9 := Lib.hid (Y8.out.kept (kept_one hgrow9) YN.out)
                         have z0 := Y9.out.cell 0
                         have z1 := Y9.out.cell 1
                         have b9 := alloc_below0 w9 (.cells #[.int .i64 (i : Int), .int .i64 (g : Int)] 34)
                         have O10 := Lib.hid (O9.out.step b9)
                         have SR := Lib.hid (OwnS.lit lRef (lb + 2) w9 w9.heap.size rfl [((i : Int), (g : Int))] O9.out.size (by simp [maxLen])).sv
                         clear hown9 hgrow9 b9)
                      | (refine wpList_appAt lRef 28 Try.underlying28 lRef_known (by decide) (by decide) rfl (.tmp 110) (.tmp 112) rfl (lb + 2) ((i : Int), (g : Int)) w9.heap.size rfl rfl O10.out.own SR (by have := A.out.2.1.tl; omega) O10.out.size ?_; intro tv2 w10 ho10 hg10 hn10
                         have O11 := Lib.hid (O10.out.app wi wg ho10 hg10 hn10)
                         clear ho10 hg10 hn10))
                    go_meet
                    case rel =>
                      refine ⟨S2, _, _, _, _, O11.out, ⟨T.out.2.1, T.out.2.2.1, fun p q => ?_, fun p q => ?_, ?_, ?_, ?_, ?_⟩⟩
                      · rw [T.out.2.2.2.1, ← A.out.2.1.hl]
                      · rw [T.out.2.2.2.2.1, A.out.2.1.hg]
                      · show (if L.U (i : Int) (g : Int) then L.sz else L.sz + 1) = _
                        rw [LU.out, T.out.2.2.2.2.2, A.out.2.1.hs]; rfl
                      · rw [List.length_append]; have := A.out.2.1.tl; show told.length + 1 ≤ k + 1; omega
                      · have := A.out.2.1.cl; show L.c + 1 ≤ k + 1; omega
                      · have := A.out.2.1.cg; omega
                  · have T := Lib.hid (show allocM n l ps = (0, 0, e) ∧ errV e = .iface 48 (.int .i64 e) from ⟨t2, by rcases t1 with rfl | rfl <;> rfl⟩)
                    clear t1 t2
                    go_wp2_with (refine wpList_load_mid rfl 36 (.tmp 69) rfl wo.heap.size 1 rfl (recL d.sc (.slice d.ra d.rows.length d.rc) (.slice d.ea d.ents.length d.ec)) _ hrec Try.underlying36 rfl (by kernel_rfl) ?_)
                    refine (alloc_as C a _ S n l ps d.rcd 0 0 e 0 0 (.iface 48 (.int .i64 e)) ps _ O5.out.ar.inv RV.out LR.out.1 LR.out.2 T.out.1 t3 rfl rfl T.out.2).mono ?_
                    rintro ev w7 ⟨S2, rfl, hI, hk2, hS⟩
                    have O7 := Lib.hid (O5.out.turn hI hk2 hS)
                    have O8 := Lib.hid (O7.out.step (alloc_below0 w7 (.cells #[.int .i64 0, .int .i64 0] 34)))
                    clear hI hk2 hS hrec
                    go_wp2
                    go_roundg (N - (k + 1))
                    case measure => have := A.out.2.2; omega
                    case rel => exact ⟨k + 1, S2, ps, L, G, told, by omega, by go_num, O8.out, A.out.2.1.next⟩
                · have hvt : (d.verb == 0) = false := by simp [hvb]
                  have x0 := X5.out.cell 0
                  have x1 := X5.out.cell 1
                  clear hvb v0
                  by_cases hc : codeM n ps px py = 0
                  · obtain ⟨t1, t2, t3, t4, t5, t6, t7, t8, t9, t10⟩ := free_refs A.out.2.1.val A.out.2.1.ord hc
                    have T := Lib.hid (show _ ∧ _ ∧ _ ∧ _ ∧ _ ∧ _ from ⟨hc, t6, t7, t8, t9, t10⟩)
                    have wi : wf64 px := wf64_of (by omega) (by omega)
                    have wg : wf64 py := wf64_of (by omega) (by omega)
                    have LU := Lib.hid (show L.U px py = true by rw [A.out.2.1.hl]; exact t1)
                    have hatL := O5.out.mL.at1 px py wi wg
                    rw [LU.out] at hatL
                    have HL := Lib.hid hatL
                    clear t1 t2 t3 t4 t5 t6 t7 t8 t9 t10 hc hatL
                    go_wp2_with fail
                    refine (free_as C a S n l ps px py 0 .nilIface _ _ O5.out.ar.inv T.out.1 rfl rfl).mono ?_
                    rintro ev w7 ⟨S2, rfl, hI, hk2, hS⟩
                    have O7 := Lib.hid (O5.out.turn hI hk2 hS)
                    have X7 := Lib.hid (X5.out.kept hk2 XS.out)
                    have y0 := X7.out.cell 0
                    have y1 := X7.out.cell 1
                    have YN := Lib.hid (show w3.heap.size ≠ lb by have := BL.out; omega)
                    clear hI hk2 hS x0 x1
                    go_wp2_with (first
                      | (at_lookup; refine wpList_lookupG _ (by rfl) _ _ 27 rfl 34 3 .i64 keyR Try.underlying27 Try.underlying3 (zeroI _) lb L.c L.D rfl O7.out.mL.own _ _ rfl (keyOf_ref wi wg) _ HL.out ?_)
                      | (at_delete; refine wpList_delete_own _ rfl _ _ 27 34 rfl 3 keyR Try.underlying27 _ lb L.c L.D rfl O7.out.mL.own _ _ rfl (keyOf_ref wi wg) ?_; intro w8 hown8 hturn8
                         have O8 := Lib.hid (O7.out.delL wi wg LU.out (s := (liveM n (freeM n ps px py)).length) (by rw [A.out.2.1.hs]; exact T.out.2.2.2.2.2.symm) hown8 hturn8.grown)
                         have X8 := Lib.hid (X7.out.kept (kept_one hturn8.grown) YN.out)
                         have z0 := X8.out.cell 0
                         have z1 := X8.out.cell 1
                         clear hown8 hturn8)
                      | (at_mapUpdate; refine wpList_mapUpdate_own _ rfl _ _ _ 27 rfl 34 3 keyR Try.underlying27 _ (lb + 1) G.c _ rfl O8.out.mG.own (by have := A.out.2.1.cg; unfold maxLen; omega) _ _ _ rfl rfl (keyOf_ref wi wg) _ [] (plainElem_int Try.underlying3 (by decide)) ?_; intro w9 hown9 hgrow9
                         have O9 := Lib.hid (O8.out.putG wi wg hown9 hgrow9)
                         clear hown9 hgrow9))
                    go_meet
                    case rel =>
                      refine ⟨S2, _, _, _, _, O9.out, ⟨T.out.2.1, T.out.2.2.1, fun p q => ?_, fun p q => ?_, rfl, ?_, ?_, ?_⟩⟩
                      · rw [T.out.2.2.2.1, ← A.out.2.1.hl]
                      · rw [T.out.2.2.2.2.1, ← A.out.2.1.hg]
                      · have := A.out.2.1.tl; omega
                      · have := A.out.2.1.cl; show L.c ≤ k + 1; omega
                      · have := A.out.2.1.cg; show G.c + 1 ≤ k + 1; omega
                  · have hc2 : codeM n ps px py = 1 ∨ codeM n ps px py = 4 := by
                      unfold codeM at hc ⊢
                      split
                      · exact .inl rfl
                      · rename_i hr
                        rw [if_neg hr] at hc
                        split
                        · exact .inr rfl
                        · rename_i hn; rw [if_neg hn] at hc; exact absurd rfl hc
                    obtain ⟨e, he⟩ : ∃ e, codeM n ps px py = e := ⟨_, rfl⟩
                    rw [he] at hc2
                    have T := Lib.hid (show codeM n ps px py = e ∧ errV e = .iface 48 (.int .i64 e) ∧ freeM n ps px py = ps from ⟨he, by rcases hc2 with rfl | rfl <;> rfl, free_none hc⟩)
                    clear hc hc2 he
                    go_wp2_with fail
                    refine (free_as C a S n l ps px py e (.iface 48 (.int .i64 e)) ps _ O5.out.ar.inv T.out.1 T.out.2.2 T.out.2.1).mono ?_
                    rintro ev w7 ⟨S2, rfl, hI, hk2, hS⟩
                    have O7 := Lib.hid (O5.out.turn hI hk2 hS)
                    clear hI hk2 hS x0 x1
                    go_wp2
                    go_meet
                    case rel => exact ⟨S2, _, _, _, _, O7.out, A.out.2.1.next⟩
              case rest =>
                obtain ⟨S2, ps2, L2, G2, told2, hO6, hR6⟩ := hcut
                obtain ⟨w6b, hw6b⟩ : ∃ x, x = wc := ⟨_, rfl⟩
                subst hw6b
                have O6 := Lib.hid hO6
                have R6 := Lib.hid hR6
                have bu := alloc_below0 w6b (.map #[] 0)
                have O7 := Lib.hid (O6.out.step bu)
                have U7 := Lib.hid (MapU.made w6b)
                have UB := Lib.hid (show lb + 2 ≤ w6b.heap.size ∧ ¬ S2 w6b.heap.size ∧ w.heap.size ≤ w6b.heap.size from ⟨O6.out.size, fun h => Nat.lt_irrefl _ (C.foot O6.out.ar.inv _ h), O6.out.ar.low.size⟩)
                have z7 : (w6b.alloc (.map #[] 0)).heap.size = w6b.heap.size + 1 := by simp
                have TN := Lib.hid (show ∀ k, u10.ownBlock = some k → k < w6b.heap.size from fun k hk => (O6.out.own.bounds k hk).2)
                clear hO6 hR6 bu X5 D5 O5
                go_wp2_with (at_range; refine wpList_range_own _ rfl _ 27 rfl 34 3 keyR Try.underlying27 _ lb L2.c L2.D rfl O7.out.mL.own ?_; intro w8 hrg8 hg8 hs8; rw [z7])
                rw [z7] at hrg8 hs8
                have b8 : Below (w6b.alloc (.map #[] 0)).heap.size (w6b.alloc (.map #[] 0)) w8 := ⟨hg8.os, hg8.tape, hg8.output, hg8.size, fun k hk => hg8.block k hk (by simp)⟩
                have O8 := Lib.hid (O7.out.step b8)
                have U8 := Lib.hid (U7.out.low b8)
                have RG8 := Lib.hid hrg8
                have HS8 := Lib.hid hs8
                clear hrg8 hg8 hs8 b8 z7
                go_frame
                go_loopg [129] L2.sz (fun r _ wz => ∃ (left : Lit → Bool) (c2 : Nat) (Ub : Int → Bool), wz.ranges Try.prog 34 (plainElem Try.prog 3) lb (w6b.heap.size + 1) L2.c L2.D left r ∧ (∀ p q, wf64 p → wf64 q → left (kR p q) = true → L2.U p q = true) ∧ MapU wz w6b.heap.size c2 Ub ∧ c2 + r ≤ L2.sz
                  ∧ (∀ m, Ub m = true → ∃ q, wf64 m ∧ wf64 q ∧ L2.U m q = true ∧ left (kR m q) = false) ∧ On C w wz a lb S2 n l ps2 L2 G2 u10 told2 ∧ w6b.heap.size + 2 ≤ wz.heap.size)
                case atStart =>
                  refine ⟨Maps.has L2.D, 0, fun _ => false, ?_, fun p q hp hq h => by rw [← O7.out.mL.has p q hp hq]; exact h, U8.out, Nat.le_of_eq (Nat.zero_add _), fun m h => (by cases h), O8.out, by rw [HS8.out]; exact Nat.le_refl _⟩
                  have h := RG8.out
                  rw [O7.out.mL.size] at h
                  exact h
                case round =>
                  obtain ⟨w9, hw9⟩ : ∃ x, x = wr := ⟨_, rfl⟩
                  subst hw9
                  obtain ⟨g9, hg9⟩ : ∃ x, x = gk := ⟨_, rfl⟩
                  subst hg9
                  obtain ⟨left, c2, Ub, hrg, hlf, hU, hc2, hUb, hO9, hsz9⟩ := hrel
                  have RG := Lib.hid hrg
                  have E9 := Lib.hid (show (∀ p q, wf64 p → wf64 q → left (kR p q) = true → L2.U p q = true) ∧ c2 + g9 ≤ L2.sz ∧ (∀ m, Ub m = true → ∃ q, wf64 m ∧ wf64 q ∧ L2.U m q = true ∧ left (kR m q) = false) ∧ w6b.heap.size + 2 ≤ w9.heap.size from ⟨hlf, hc2, hUb, hsz9⟩)
                  have U9 := Lib.hid hU
                  have O9 := Lib.hid hO9
                  clear hrg hlf hU hc2 hUb hO9 hsz9
                  go_wp2_with (at_next; go_must (refine wpList_next_ranges _ rfl _ rfl 34 keyR (plainElem Try.prog 3) (fun x : Int × Int => Value.agg #[.int .i64 x.1, .int .i64 x.2]) (Value.int .i64) (fun key kl h => by obtain ⟨p, q, rfl, -⟩ := keyOf_ref_inv h; exact ⟨(p, q), rfl⟩) (fun v y h => by obtain ⟨c, rfl, -⟩ := plainElem_int_inv Try.underlying3 h; exact ⟨c, rfl⟩) lb (w6b.heap.size + 1) L2.c L2.D left g9 rfl RG.out ?_ ?_))
                  · intro hc0 hl0
                    clear RG U9 E9 hc0 hl0 hmm
                    go_wp2_with (at_range; refine wpList_range_own _ rfl _ 27 rfl 34 3 keyR Try.underlying27 _ (lb + 1) G2.c G2.D rfl O9.out.mG.own ?_; intro w15 hrg15 hg15 hs15)
                    have b15 : Below w9.heap.size w9 w15 := ⟨hg15.os, hg15.tape, hg15.output, hg15.size, fun k hk => hg15.block k hk (by simp)⟩
                    have O15 := Lib.hid (O9.out.step b15)
                    have RG15 := Lib.hid hrg15
                    have TN9 := Lib.hid (show (∀ k, u10.ownBlock = some k → k < w9.heap.size) ∧ lb + 2 ≤ w9.heap.size ∧ (∀ k, S2 k → k < w9.heap.size) ∧ w.heap.size ≤ w9.heap.size from ⟨fun k hk => (O9.out.own.bounds k hk).2, O9.out.size, C.foot O9.out.ar.inv, O9.out.ar.low.size⟩)
                    clear hrg15 hg15 hs15 b15
                    go_frame
                    go_loopg [153] G2.sz (fun r _ wz => ∃ (left : Lit → Bool), wz.ranges Try.prog 34 (plainElem Try.prog 3) (lb + 1) w9.heap.size G2.c G2.D left r ∧ (∀ p q, wf64 p → wf64 q → left (kR p q) = true → G2.U p q = true) ∧ On C w wz a lb S2 n l ps2 L2 G2 u10 told2)
                    case atStart =>
                      refine ⟨Maps.has G2.D, ?_, fun p q hp hq h => by rw [← O9.out.mG.has p q hp hq]; exact h, O15.out⟩
                      have h := RG15.out
                      rw [O9.out.mG.size] at h
                      exact h
                    case round =>
                      obtain ⟨w16, hw16⟩ : ∃ x, x = wr := ⟨_, rfl⟩
                      subst hw16
                      obtain ⟨g16, hg16⟩ : ∃ x, x = gk := ⟨_, rfl⟩
                      subst hg16
                      obtain ⟨left2, hrg, hlf, hO16⟩ := hrel
                      have RG := Lib.hid hrg
                      have E9 := Lib.hid hlf
                      have O16 := Lib.hid hO16
                      clear hrg hlf hO16
                      go_wp2_with (at_next; go_must (refine wpList_next_ranges _ rfl _ rfl 34 keyR (plainElem Try.prog 3) (fun x : Int × Int => Value.agg #[.int .i64 x.1, .int .i64 x.2]) (Value.int .i64) (fun key kl h => by obtain ⟨p, q, rfl, -⟩ := keyOf_ref_inv h; exact ⟨(p, q), rfl⟩) (fun v y h => by obtain ⟨c, rfl, -⟩ := plainElem_int_inv Try.underlying3 h; exact ⟨c, rfl⟩) (lb + 1) w9.heap.size G2.c G2.D left2 g16 rfl RG.out ?_ ?_))
                      · intro hc0 hl0
                        clear hc0 hl0
                        go_wp2
                        go_roundg (N - (k + 1))
                        case measure => have := A.out.2.2; omega
                        case rel => exact ⟨k + 1, S2, ps2, L2, G2, told2, by omega, by go_num, O16.out, R6.out⟩
                      · intro p q c kl y1 y2 w10 cnt hkey hlk hv hat hrg1 hlt1 hg1 hs1 hen
                        obtain ⟨p', q', e, wp, wq, rfl⟩ := keyOf_ref_inv hkey
                        obtain ⟨rfl, rfl⟩ : p = p' ∧ q = q' := by simpa using e
                        have LT := Lib.hid (show cnt < g16 from hlt1)
                        have CD := Lib.hid (show codeM n ps2 p q = 4 from gone_code R6.out.val R6.out.ord (by rw [← R6.out.hg]; exact E9.out p q wp wq hlk))
                        have kr := kept_one hg1
                        have O10 := Lib.hid (O16.out.other kr (fun h => Nat.lt_irrefl _ (TN9.out.2.2.1 _ h)) (by have := TN9.out; omega) (by have := TN9.out; omega) TN9.out.2.2.2 (fun k hk => by have := TN9.out.1 k hk; omega))
                        have b11 := alloc_below0 w10 (.cells #[.int .i64 p, .int .i64 q] 34)
                        have O11 := Lib.hid (O10.out.step b11)
                        have RG11 := Lib.hid (hrg1.kept (grown_low b11) (by simp) (by simp))
                        have X11 := Lib.hid (show XK w10.heap.size p q _ from heap_alloc_new w10 (.cells #[.int .i64 p, .int .i64 q] 34))
                        have x0 := X11.out.cell 0
                        have x1 := X11.out.cell 1
                        clear hkey hlk hv hat hrg1 hlt1 hg1 hs1 kr e b11
                        go_wp2_with fail
                        refine (C.load a S2 n l ps2 p q _ O11.out.ar.inv).mono ?_
                        rintro ev w12 ⟨rv, en, rfl, hrv, hen2, hs⟩
                        obtain ⟨ra, rc, rfl, -, -⟩ := hrv.sv.lenform
                        obtain ⟨ea, ec, rfl, -, -⟩ := hen2.sv.lenform
                        rw [CD.out, show errV 4 = .iface 48 (.int .i64 4) from rfl]
                        generalize loadM n ps2 p q = dd at *
                        unfold recVal
                        have bz := alloc_below0 w12 (recObj dd.sc (.slice ra dd.rows.length rc) (.slice ea dd.ents.length ec))
                        have O13 := Lib.hid ((O11.out.step hs).step bz)
                        have RG13 := Lib.hid ((RG11.out.kept (grown_low hs) (by simp) (by simp)).kept (grown_low bz) (by simp) (by simp))
                        unfold recObj at O13 RG13
                        clear hs bz x0 x1 hrv hen2 hen
                        go_wp2_with fail
                        refine (fIs_code 4 4 _).mono ?_
                        rintro ev w17 ⟨rfl, hs⟩
                        rw [show ((4 : Int) == 4) = true from rfl]
                        have O17 := Lib.hid (O13.out.step hs)
                        have RG17 := Lib.hid (RG13.out.kept (grown_low hs) (by simp) (by simp))
                        clear hs
                        go_wp2
                        go_roundg cnt
                        case measure => exact LT.out
                        case rel =>
                          refine ⟨_, RG17.out, fun p' q' hp' hq' h => ?_, O17.out⟩
                          simp only [Bool.and_eq_true] at h
                          exact E9.out p' q' hp' hq' h.1
                  · intro p q c kl y1 y2 w10 cnt hkey hlk hv hat hrg1 hlt1 hg1 hs1 hen
                    obtain ⟨p', q', e, wp, wq, rfl⟩ := keyOf_ref_inv hkey
                    obtain ⟨rfl, rfl⟩ : p = p' ∧ q = q' := by simpa using e
                    have LT := Lib.hid (show cnt < g9 ∧ left (kR p q) = true from ⟨hlt1, hlk⟩)
                    have LU := Lib.hid (show L2.U p q = true from E9.out.1 p q wp wq hlk)
                    have CD := Lib.hid (show codeM n ps2 p q = 0 from (live_code R6.out.val (by rw [← R6.out.hl]; exact LU.out)).1)
                    have UF := Lib.hid (show Ub p = false by
                      cases hu : Ub p with
                      | false => rfl
                      | true =>
                        obtain ⟨q', -, wq', h1, h2⟩ := E9.out.2.2.1 p hu
                        have e := live_one R6.out.val (p := p) (q := q) (q' := q') (by rw [← R6.out.hl]; exact LU.out) (by rw [← R6.out.hl]; exact h1)
                        subst e
                        rw [hlk] at h2; cases h2)
                    have kr := kept_one hg1
                    have O10 := Lib.hid (O9.out.other kr (fun h => by have := C.foot O6.out.ar.inv _ h; omega) (by have := UB.out.1; omega) (by have := UB.out.1; omega) (by have := UB.out.2.2; omega) (fun k hk => by have := TN.out k hk; omega))
                    have U10 := Lib.hid (U9.out.keptS kr (by omega))
                    have b11 := alloc_below0 w10 (.cells #[.int .i64 p, .int .i64 q] 34)
                    have O11 := Lib.hid (O10.out.step b11)
                    have U11 := Lib.hid (U10.out.low b11)
                    have RG11 := Lib.hid (hrg1.kept (grown_low b11) (by simp) (by simp))
                    have X11 := Lib.hid (show XK w10.heap.size p q _ from heap_alloc_new w10 (.cells #[.int .i64 p, .int .i64 q] 34))
                    have x0 := X11.out.cell 0
                    have x1 := X11.out.cell 1
                    clear hkey hlk hv hat hrg1 hlt1 hg1 hs1 kr e b11
                    go_wp2_with fail
                    refine (C.load a S2 n l ps2 p q _ O11.out.ar.inv).mono ?_
                    rintro ev w12 ⟨rv, en, rfl, hrv, hen2, hs⟩
                    obtain ⟨ra, rc, rfl, -, -⟩ := hrv.sv.lenform
                    obtain ⟨ea, ec, rfl, -, -⟩ := hen2.sv.lenform
                    rw [CD.out, fullE 0 rfl]
                    generalize loadM n ps2 p q = dd at *
                    unfold recVal
                    have bz := alloc_below0 w12 (recObj dd.sc (.slice ra dd.rows.length rc) (.slice ea dd.ents.length ec))
                    have O13 := Lib.hid ((O11.out.step hs).step bz)
                    have RG13 := Lib.hid ((RG11.out.kept (grown_low hs) (by simp) (by simp)).kept (grown_low bz) (by simp) (by simp))
                    have X13 := Lib.hid ((X11.out.step hs).step bz)
                    obtain ⟨D, hD1, hD2⟩ := (U11.out.low hs).low bz
                    have DM := Lib.hid (show IsMap D ∧ _ from ⟨hD1.isMap, hD2⟩)
                    have OW := Lib.hid hD1
                    have HAT := Lib.hid (show D.atKey (.int .i64 p) (.lit (.int .i64 0)) = .lit (.int .i64 0) by rw [hD2, UF.out]; rfl)
                    have SZ := Lib.hid (show w6b.heap.size + 2 ≤ (w12.alloc (recObj dd.sc (.slice ra dd.rows.length rc) (.slice ea dd.ents.length ec))).heap.size from by have := E9.out.2.2.2; have := RG13.out.lt; omega)
                    unfold recObj at O13 RG13 X13 OW SZ
                    have z0 := X13.out.cell 0
                    clear hs bz hD1 hD2 x0 x1 hrv hen2 hen
                    go_wp2_with (first
                      | (at_lookup; refine wpList_lookupG _ (by rfl) _ _ 44 rfl 3 3 .i64 keyI Try.underlying44 Try.underlying3 (zeroI _) w6b.heap.size c2 D rfl OW.out _ _ rfl (keyOf_int_mk Try.underlying3 wp) _ HAT.out ?_)
                      | (at_mapUpdate; refine wpList_mapUpdate_own _ rfl _ _ _ 44 rfl 3 3 keyI Try.underlying44 _ w6b.heap.size c2 _ rfl OW.out (by have := E9.out.2.1; have := R6.out.hs; have := live60 ps2 n1; unfold maxLen; omega) _ _ _ rfl rfl (keyOf_int_mk Try.underlying3 wp) _ [] (plainElem_int Try.underlying3 (by decide)) ?_; intro w14 hown14 hgrow14))
                    have U14 := Lib.hid (MapU.put DM.out.1 DM.out.2 hown14)
                    have O14 := Lib.hid (O13.out.other (kept_one hgrow14) UB.out.2.1 (by have := UB.out.1; omega) (by have := UB.out.1; omega) UB.out.2.2 (fun k hk => by have := TN.out k hk; omega))
                    have RG14 := Lib.hid (RG13.out.kept hgrow14 (by have := UB.out.1; simp; omega) (by simp))
                    have SZ14 := Lib.hid (Nat.le_trans SZ.out hgrow14.size)
                    clear hown14 hgrow14 z0
                    go_roundg cnt
                    case measure => exact LT.out.1
                    case rel =>
                      refine ⟨_, c2 + 1, _, RG14.out, fun p' q' hp' hq' h => ?_, U14.out, by have := E9.out.2.1; have := LT.out.1; omega, fun m hm => ?_, O14.out, SZ14.out⟩
                      · simp only [Bool.and_eq_true] at h
                        exact E9.out.1 p' q' hp' hq' h.1
                      · simp only [Bool.or_eq_true, beq_iff_eq] at hm
                        rcases hm with hm | rfl
                        · obtain ⟨q', w1', w2', h1, h2⟩ := E9.out.2.2.1 m hm
                          exact ⟨q', w1', w2', h1, by simp [h2]⟩
                        · exact ⟨q, wp, wq, LU.out, by simp [WideAt.sameKey_self (kR_key wp wq)]⟩
        · go_wp2_with fail
          refine (C.live a S n l ps _ A.out.1.ar.inv).mono ?_
          rintro ev w3 ⟨lv, rfl, hlv, hs⟩
          obtain ⟨la, lc, rfl, -, -⟩ := hlv.sv.lenform
          have O3 := Lib.hid (A.out.1.step hs)
          have LZ := Lib.hid (show (Maps.size L.D : Nat) = (liveM n ps).length from A.out.1.mL.size.trans A.out.2.1.hs)
          obtain ⟨lw, hlw⟩ : ∃ x, (liveM n ps).length = x := ⟨_, rfl⟩
          rw [hlw] at LZ ⊢
          have e1 : ((lw : Int) == (lw : Int)) = true := by simp
          clear hs hlv hlw
          go_wp2_with (at_len; refine wpList_len_own _ rfl _ 27 rfl 34 3 Try.underlying27 _ lb L.c L.D rfl O3.out.mL.own ?_; rw [LZ.out])
          refine (awakeA C _).mono ?_
          rintro ev w4 ⟨rfl, hs⟩
          have B4 := Lib.hid (O3.out.ar.low.trans (hs.mono O3.out.ar.low.size))
          clear hs
          go_wp2
          go_ret
          exact ⟨rfl, B4.out⟩
end Go.Proofs.Ytkokpbkpmhhemaa
