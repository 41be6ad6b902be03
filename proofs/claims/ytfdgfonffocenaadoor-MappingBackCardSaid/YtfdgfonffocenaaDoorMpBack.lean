/- The walk of the law MappingBack. -/
import Derived.Test.YtfdgfonffocenaaDoorMpPair
import Derived.Test.YtfdgfonffocenaaDoorMpSame
namespace Go.Proofs.YtfdgfonffocenaaDoor
open Go.RowKit

theorem Pair.back {w w' : World} {ab pb n rb : Nat} {L : List Pg} {us : List Up} {k : Nat} (h : Pair w ab pb n rb L us k) (hk : Kept (fun k => k = pb) w w') (hT : TabAt w' ab pb n L) (hne : ¬ rb = pb) : Pair w' ab pb n rb L us k := by
  obtain ⟨a, c, e1, e2⟩ := h.ref
  exact ⟨hT, ⟨a, c, h.tab.keepUp e1 hk, blk_keep e2 hk hne⟩, h.ok, h.small⟩
theorem free_there {L : List Pg} {i : Nat} (h : firstFree L = some i) : L[i]? = some none := by
  unfold firstFree at h
  rw [List.findIdx?_eq_some_iff_getElem] at h
  obtain ⟨hi, h1, -⟩ := h
  rw [List.getElem?_eq_getElem hi]
  cases hx : L[i] with
  | none => rfl
  | some r => rw [hx] at h1; cases h1
theorem set_same {L : List Pg} {i : Nat} {p q : Pg} (h : L[i]? = some p) : (L.set i q).set i p = L := by
  rw [List.set_set]
  apply List.ext_getElem?
  intro j
  rw [List.getElem?_set]
  by_cases e : i = j
  · subst e; rw [if_pos rfl, if_pos (List.getElem?_eq_some_iff.1 h).1, h]
  · rw [if_neg e]
theorem set_here {L : List Pg} {i : Nat} {p q : Pg} (h : L[i]? = some p) : (L.set i q)[i]? = some q := by
  rw [List.getElem?_set, if_pos rfl, if_pos (List.getElem?_eq_some_iff.1 h).1]
theorem take_give {L : List Pg} {i : Nat} (h : firstFree L = some i) : takeN L = i ∧ takeE L = 0 ∧ codeT (takeL L) i = 0 ∧ giveL (takeL L) i = L := by
  have h1 := free_there h
  have hL : takeL L = L.set i (some (0, 0)) := by unfold takeL; rw [h]
  have hc : codeT (takeL L) i = 0 := by rw [hL, codeT_at (set_here h1)]; rfl
  refine ⟨by unfold takeN; rw [h]; rfl, by unfold takeE; rw [h]; rfl, hc, ?_⟩
  unfold giveL
  rw [if_pos hc, hL, Int.toNat_natCast, set_same h1]
theorem take_full {L : List Pg} (h : firstFree L = none) : takeN L = 0 ∧ takeE L = 3 ∧ takeL L = L := by
  unfold takeN takeE takeL; rw [h]; exact ⟨rfl, rfl, rfl⟩
theorem used_at {L : List Pg} {j : Nat} {p : Int} (h : (usedT L)[j]? = some p) : ∃ (i : Nat) (r : Rf), p = (i : Int) ∧ L[i]? = some (some r) := by
  unfold usedT usedTo at h
  have hm := List.mem_of_getElem? h
  obtain ⟨i, hi, rfl⟩ := List.mem_map.1 hm
  obtain ⟨h1, h2⟩ := List.mem_filter.1 hi
  rw [pageAt_nat] at h2
  cases hx : L[i]? with
  | none => rw [hx] at h2; cases h2
  | some q =>
    cases q with
    | none => rw [hx] at h2; cases h2
    | some r => exact ⟨i, r, rfl, hx⟩
theorem swap_to {L : List Pg} {i : Nat} {r x : Rf} (h : L[i]? = some (some r)) : swapB L i r = true ∧ codeT L i = 0 ∧ swapL L i r x = L.set i (some x) := by
  have hb : swapB L i r = true := by unfold swapB; rw [codeT_at h, headT_at h]; simp
  refine ⟨hb, by rw [codeT_at h]; rfl, ?_⟩
  unfold swapL
  rw [if_pos hb, Int.toNat_natCast]
theorem swap_fro {L : List Pg} {i : Nat} {r x : Rf} (h : L[i]? = some (some r)) : swapB (L.set i (some x)) i x = true ∧ codeT (L.set i (some x)) i = 0 ∧ swapL (L.set i (some x)) i x r = L := by
  have h2 : (L.set i (some x))[i]? = some (some x) := set_here h
  obtain ⟨a, b, c⟩ := swap_to (x := r) h2
  exact ⟨a, b, by rw [c, set_same h]⟩
set_option maxRecDepth 100000 in
set_option maxHeartbeats 4000000 in
theorem lawBack (pg : Int) (v : Value) (ds : List DoD) (xs xg : Int) (w : World) (hv : SV lDo w v ds) (hg : Ea.Glob w) : Calls Tryd.prog 5 #[.int .i64 pg, v, refV xs xg] w fun ev w' => ev = .returned (.bool true) ∧ Below w.heap.size w w' := by
  obtain ⟨a, c, rfl, hlc, hcm⟩ := hv.lenform
  obtain ⟨m, hm⟩ : ∃ m, ds.length = m := ⟨_, rfl⟩
  rw [hm] at hv hlc ⊢
  obtain ⟨W, hW⟩ : ∃ W, W = w.alloc (.cells #[.int .i64 xs, .int .i64 xg] 32) := ⟨_, rfl⟩
  have b0 := alloc_below0 w (.cells #[.int .i64 xs, .int .i64 xg] 32)
  have X0 := Lib.hid (show RfAt W w.heap.size xs xg by rw [hW]; exact RfAt.new w xs xg _)
  rw [← hW] at b0
  have V := Lib.hid (hv.below b0)
  have G := Lib.hid (Ea.Glob.below b0 hg)
  have MM := Lib.hid hm
  have B0 := Lib.hid b0
  have XL := Lib.hid (show w.heap.size < W.heap.size by rw [hW]; simp)
  clear hv hg hm b0
  unfold refV
  by_cases h1 : 100 < (m : Int)
  · go_enter Tryd.func5, Tryd.ntmps5
    go_wp2_with fail
    rw [← hW]
    refine (awakeM _).mono ?_
    rintro ev w1 ⟨rfl, hs⟩
    have B1 := Lib.hid (B0.out.trans (hs.mono B0.out.size))
    clear hs hW
    go_wp2
    go_ret
    exact ⟨rfl, B1.out⟩
  · by_cases h2 : pg < 1
    · go_enter Tryd.func5, Tryd.ntmps5
      go_wp2_with fail
      rw [← hW]
      refine (awakeM _).mono ?_
      rintro ev w1 ⟨rfl, hs⟩
      have B1 := Lib.hid (B0.out.trans (hs.mono B0.out.size))
      clear hs hW
      go_wp2
      go_ret
      exact ⟨rfl, B1.out⟩
    · by_cases h3 : 100 < pg
      · go_enter Tryd.func5, Tryd.ntmps5
        go_wp2_with fail
        rw [← hW]
        refine (awakeM _).mono ?_
        rintro ev w1 ⟨rfl, hs⟩
        have B1 := Lib.hid (B0.out.trans (hs.mono B0.out.size))
        clear hs hW
        go_wp2
        go_ret
        exact ⟨rfl, B1.out⟩
      · obtain ⟨n, rfl⟩ : ∃ n : Nat, pg = n := ⟨pg.toNat, by omega⟩
        have g1 : 1 ≤ n := by omega
        have g2 : n ≤ 100 := by omega
        go_enter Tryd.func5, Tryd.ntmps5
        go_wp2_with fail
        rw [← hW]
        clear hW
        refine (new_any n _ g1 (by omega)).mono ?_
        rintro ev w1 ⟨ab, pb, rfl, hT, ga, gb, hs⟩
        have T1 := Lib.hid hT
        have S1 := Lib.hid (show W.heap.size ≤ ab ∧ W.heap.size ≤ pb from ⟨ga, gb⟩)
        have B1 := Lib.hid hs
        clear hs hT ga gb
        go_wp2_with fail
        refine (rf_new n _).mono ?_
        rintro ev w2 ⟨rfl, hs⟩
        unfold refT
        have b2 := alloc_below0 w2 (.cells #[.int .i64 n, .slice none 0 0] 28)
        have k2 := blk_new w2 (.cells #[.int .i64 n, .slice none 0 0] 28)
        obtain ⟨W2, hW2⟩ : ∃ W, W = w2.alloc (.cells #[.int .i64 n, .slice none 0 0] 28) := ⟨_, rfl⟩
        obtain ⟨rb, hrb⟩ : ∃ rb, w2.heap.size = rb := ⟨_, rfl⟩
        have PR := Lib.hid (show pb < w2.heap.size ∧ ab < w2.heap.size from ⟨(T1.out.low hs).ltP, (T1.out.low hs).ltA⟩)
        rw [hrb] at k2 PR
        rw [← hW2] at b2 k2
        have B2 := Lib.hid ((B1.out.trans (hs.mono B1.out.size)).trans (b2.mono (B1.out.trans (hs.mono B1.out.size)).size))
        have P2 := Lib.hid (show Pair W2 ab pb n rb (pages0 n) [] 0 from ⟨(T1.out.low hs).low b2, ⟨none, 0, OwnS.nil _ _ _, k2⟩, RefOk.nil n, Nat.le_refl _⟩)
        have SR := Lib.hid (show W.heap.size ≤ rb ∧ ¬ rb = pb ∧ ¬ rb = ab ∧ ¬ ab = rb ∧ ¬ pb = rb from ⟨by have := S1.out; have := PR.out; omega, by have := PR.out; omega, by have := PR.out; omega, by have := PR.out; omega, by have := PR.out; omega⟩)
        have GP := Lib.hid (show ¬ 0 = pb by have := lt_of_cell G.out; have := S1.out; omega)
        clear hs b2 k2
        go_wp2_with fail
        rw [← hW2]
        clear hW2 hrb
        go_loopg [45] m (fun r i wz => ∃ (k : Nat) (us : List Up) (L : List Pg), k + r = m ∧ i = .int .i64 k ∧ Pair wz ab pb n rb L us k ∧ Below W.heap.size W wz)
        case atStart => exact ⟨0, [], pages0 n, by omega, rfl, P2.out, B2.out⟩
        case round =>
          obtain ⟨k, us, L, hk, rfl, hP, hB⟩ := hrel
          have HK := Lib.hid (show k + gk = m ∧ m ≤ 100 from ⟨hk, by omega⟩)
          by_cases hlt : k < m
          · obtain ⟨d, hd⟩ : ∃ d, ds[k]? = some d := ⟨_, List.getElem?_eq_getElem (by rw [MM.out]; exact hlt)⟩
            obtain ⟨b, off, ha⟩ := V.out.addr (by rw [MM.out]; omega)
            subst ha
            obtain ⟨e0, e1, e2, e3, e4, e5, e6⟩ := step_read (V.out.below hB) hd
            have bd := alloc_below0 wr (doObj d.verb d.x d.right d.os d.og d.ns d.ng)
            have kd := DoAt.new d.verb d.x d.right d.os d.og d.ns d.ng wr
            obtain ⟨w3, hw3⟩ : ∃ W, W = wr.alloc (doObj d.verb d.x d.right d.os d.og d.ns d.ng) := ⟨_, rfl⟩
            rw [← hw3] at bd kd
            unfold doObj at hw3
            have P3 := Lib.hid (hP.low bd)
            have B4 := Lib.hid (hB.trans (bd.mono hB.size))
            have G3 := Lib.hid (Ea.Glob.below B4.out G.out)
            have i1 : IntKind.i64.wrap ((k : Int) + 1) = (k : Int) + 1 := Go.IntWalk.i64_in _ (by omega)
            have j3 : (0 : Int) ≤ (k : Int) := by omega
            have j4 : (k : Int) < (m : Int) := by omega
            obtain ⟨aa, cc, hO, hK⟩ := P3.out.ref
            have K3 := Lib.hid hK
            have O3 := Lib.hid hO
            have t0 := blk_cell K3.out 0
            have t1 := blk_cell K3.out 1
            obtain ⟨f0, f1, f2, f3, f4, f5, f6⟩ := kd
            rw [hw3] at t0 t1 f0 f1 f2 f3 f4 f5 f6
            have fd := does_any ab pb n L _ us d.verb d.x d.right d.os d.og d.ns d.ng w3 P3.out.tab O3.out P3.out.ok (by have := P3.out.small; omega) G3.out GP.out
            unfold refT doVal at fd
            clear hP hB hd bd hk hO hK
            go_wp2_with fail
            rw [← hw3]
            refine fd.mono ?_
            rintro ev w4 ⟨v4, us4, rfl, hT, hv4, hr4, hl4, hkk⟩
            unfold refT
            obtain ⟨N4, hN4⟩ : ∃ N4, us4.length = N4 := ⟨_, rfl⟩
            obtain ⟨a4, c4, rfl, -, -⟩ := hv4.lenN hN4
            have K4 := Lib.hid (blk_keep K3.out hkk SR.out.2.1)
            have B5 := Lib.hid (B4.out.trans (hkk.below (n := W.heap.size) (fun k e => e ▸ S1.out.2) B4.out.size))
            have Pw := Lib.hid (Pair.write (show TabAt w4 ab pb n (d.step L) from hT) hv4 hN4 hr4 (show N4 ≤ k + 1 by have := P3.out.small; omega) K4.out SR.out.2.2.2.1 SR.out.2.2.2.2)
            have Bw := Lib.hid (below_set (below_set B5.out SR.out.1 0 (.int .i64 n)) SR.out.1 1 (.slice a4 N4 c4))
            obtain ⟨z0, z1, z2, z3, -⟩ := two_facts K4.out (.int .i64 n) (.slice a4 N4 c4)
            clear hT hv4 hr4 hl4 hkk fd t0 t1 f0 f1 f2 f3 f4 f5 f6 e0 e1 e2 e3 e4 e5 e6 hN4
            go_wp2
            go_roundg (m - (k + 1))
            case measure => have := HK.out; omega
            case rel => exact ⟨k + 1, us4, d.step L, by omega, by go_num, Pw.out, Bw.out⟩
          · obtain rfl : k = m := by omega
            have P3 := Lib.hid hP
            have B3 := Lib.hid hB
            clear hP hB
            go_wp2_with fail
            refine (take_any _ ab pb n L P3.out.tab).mono ?_
            rintro ev w4 ⟨rfl, hT, hkk⟩
            have B4 := Lib.hid (B3.out.trans (hkk.below (n := W.heap.size) (fun k e => e ▸ S1.out.2) B3.out.size))
            have G4 := Lib.hid (Ea.Glob.below B4.out G.out)
            have KK := Lib.hid hkk
            obtain ⟨a4, c4, hO, hK⟩ := P3.out.ref
            have O4 := Lib.hid (P3.out.tab.keepUp hO hkk)
            have K4 := Lib.hid (blk_keep hK hkk SR.out.2.1)
            obtain ⟨N4, hN4⟩ : ∃ N4, us.length = N4 := ⟨_, rfl⟩
            rw [hN4] at O4 K4
            have RO := Lib.hid (show RefOk us L ∧ us.length = N4 ∧ N4 ≤ k from ⟨P3.out.ok, hN4, hN4 ▸ P3.out.small⟩)
            have fs := fun w hT hO hG => same_any ab pb n L (.slice a4 N4 c4) us w hT hO P3.out.ok hG
            unfold refT at fs
            have hnot : ∀ (x : Bool) (w : World), (Op.unary .not (.bool x)).run Tryd.prog w = .ok (.bool (!x)) w := fun _ _ => rfl
            have t0 := blk_cell K4.out 0
            have t1 := blk_cell K4.out 1
            clear hkk hO hK hN4
            cases hf : firstFree L with
            | none =>
              have F := Lib.hid (take_full hf)
              rw [F.out.1, F.out.2.1, show errV 3 = .iface 55 (.int .i64 3) from rfl]
              rw [F.out.2.2] at hT
              have T4 := Lib.hid hT
              clear hT
              have T5 := T4
              have O5 := O4
              have K5 := K4
              have B5 := B4
              have G5 := G4
              go_wp2_with fail
              refine (fs _ T5.out O5.out G5.out).mono ?_
              rintro ev w6 ⟨rfl, hs⟩
              have T6 := Lib.hid (T5.out.low hs)
              have O6 := Lib.hid (O5.out.below hs)
              have K6 := Lib.hid (blk_step K5.out hs)
              have B6 := Lib.hid (B5.out.trans (hs.mono B5.out.size))
              have s0 := blk_cell K6.out 0
              have s1 := blk_cell K6.out 1
              have fp := rf_pages n (.slice a4 N4 c4) us L w6 O6.out.sv RO.out.1 T6.out.len T6.out.hi
              unfold refT at fp
              clear hs
              go_wp2_with fail
              refine fp.mono ?_
              rintro ev w7 ⟨v7, rfl, ho, hs⟩
              obtain ⟨M, hM⟩ : ∃ M, (usedT L).length = M := ⟨_, rfl⟩
              have UM := Lib.hid hM
              obtain ⟨a7, c7, rfl, -, -⟩ := ho.lenN hM
              have U7 := Lib.hid ho
              have PB6 := Lib.hid (show pb < w6.heap.size from T6.out.ltP)
              have T7 := Lib.hid (T6.out.low hs)
              have O7 := Lib.hid (O6.out.below hs)
              have K7 := Lib.hid (blk_step K6.out hs)
              have B7 := Lib.hid (B6.out.trans (hs.mono B6.out.size))
              clear hs ho fp s0 s1 hM
              go_wp2_with fail
              go_loopg [79] M (fun r i wz => ∃ j : Nat, j + r = M ∧ i = .int .i64 j ∧ TabAt wz ab pb n L ∧ Kept (fun k => k = pb) w7 wz)
              case atStart => exact ⟨0, by omega, rfl, T7.out, Kept.refl _ _⟩
              case round =>
                obtain ⟨j, hj, rfl, hT, hkk⟩ := hrel
                have T8 := Lib.hid hT
                have K8 := Lib.hid hkk
                have B8 := Lib.hid (B7.out.trans (hkk.below (n := W.heap.size) (fun k e => e ▸ S1.out.2) B7.out.size))
                have HJ := Lib.hid hj
                clear hT hkk hj
                by_cases hjl : j < M
                · obtain ⟨pp, hp⟩ : ∃ p, (usedT L)[j]? = some p := ⟨_, List.getElem?_eq_getElem (by rw [UM.out]; exact hjl)⟩
                  obtain ⟨i2, ⟨r1, r2⟩, rfl, hL⟩ := used_at hp
                  obtain ⟨g7, hg7⟩ := U7.out.addrN (by omega)
                  subst hg7
                  have ce := (U7.out.kept K8.out (U7.out.out (fun k e => by have := PB6.out; omega))).sv.cellAt (j := 0) hp rfl
                  simp only [lInt, Nat.mul_one, Nat.add_zero, Nat.zero_add] at ce
                  have HD := Lib.hid (show headT L i2 = (r1, r2) ∧ codeT L i2 = 0 from ⟨headT_at hL, by rw [codeT_at hL]; rfl⟩)
                  have ST := Lib.hid (swap_to (x := (xs, xg)) hL)
                  have SF := Lib.hid (swap_fro (x := (xs, xg)) hL)
                  have LM : M ≤ 256 := by
                    have q1 := usedTo_len L L.length
                    have q2 : (usedTo L L.length).length = M := UM.out
                    have q3 := T7.out.len
                    have q4 := T7.out.hi
                    omega
                  have i1 : IntKind.i64.wrap ((j : Int) + 1) = (j : Int) + 1 := Go.IntWalk.i64_in _ (by omega)
                  have j3 : (0 : Int) ≤ (j : Int) := by omega
                  have j4 : (j : Int) < (M : Int) := by omega
                  clear hp hL
                  go_wp2_with fail
                  refine (head_any _ ab pb n L i2 T8.out).mono ?_
                  rintro ev w8 ⟨rfl, hs⟩
                  rw [HD.out.1, errV_at HD.out.2]
                  unfold refV
                  have bx := alloc_below0 w8 (.cells #[.int .i64 r1, .int .i64 r2] 32)
                  have kx := RfAt.new w8 r1 r2 32
                  obtain ⟨w9, hw9⟩ : ∃ W, W = w8.alloc (.cells #[.int .i64 r1, .int .i64 r2] 32) := ⟨_, rfl⟩
                  rw [← hw9] at bx kx
                  have T9 := Lib.hid ((T8.out.low hs).low bx)
                  have B9 := Lib.hid ((B8.out.trans (hs.mono B8.out.size)).trans (bx.mono (B8.out.trans (hs.mono B8.out.size)).size))
                  have K9 := Lib.hid ((K8.out.trans (Kept.of_below hs)).trans (Kept.of_below bx))
                  have H9 := Lib.hid (show RfAt w9 w8.heap.size r1 r2 ∧ ¬ w8.heap.size = pb from ⟨kx, by have := (T8.out.low hs).ltP; omega⟩)
                  have X9 := Lib.hid (X0.out.step B9.out)
                  have h0 := H9.out.1.c0
                  have h1 := H9.out.1.c1
                  have x0 := X9.out.c0
                  have x1 := X9.out.c1
                  rw [hw9] at h0 h1 x0 x1
                  clear hs bx kx
                  go_wp2_with fail
                  rw [← hw9]
                  clear h0 h1 x0 x1 hw9
                  refine (swap_any _ ab pb n L i2 r1 r2 xs xg T9.out).mono ?_
                  rintro ev w10 ⟨rfl, hT, hkk⟩
                  rw [ST.out.1, errV_at ST.out.2.1]
                  rw [ST.out.2.2] at hT
                  have T10 := Lib.hid hT
                  have B10 := Lib.hid (B9.out.trans (hkk.below (n := W.heap.size) (fun k e => e ▸ S1.out.2) B9.out.size))
                  have K10 := Lib.hid (K9.out.trans hkk)
                  have H10 := Lib.hid (H9.out.1.keep hkk H9.out.2)
                  have X10 := Lib.hid (X0.out.step B10.out)
                  have h0 := H10.out.c0
                  have h1 := H10.out.c1
                  have x0 := X10.out.c0
                  have x1 := X10.out.c1
                  clear hT hkk
                  go_wp2_with fail
                  clear h0 h1 x0 x1
                  refine (swap_any _ ab pb n _ i2 xs xg r1 r2 T10.out).mono ?_
                  rintro ev w11 ⟨rfl, hT, hkk⟩
                  rw [SF.out.1, errV_at SF.out.2.1]
                  rw [SF.out.2.2] at hT
                  have T11 := Lib.hid hT
                  have K11 := Lib.hid (K10.out.trans hkk)
                  clear hT hkk
                  go_wp2_with fail
                  go_roundg (M - (j + 1))
                  case measure => have := HJ.out; omega
                  case rel => exact ⟨j + 1, by omega, by go_num, T11.out, K11.out⟩
                · obtain rfl : j = M := by have := HJ.out; omega
                  have O8 := Lib.hid (T7.out.keepUp O7.out K8.out)
                  have KR8 := Lib.hid (blk_keep K7.out K8.out SR.out.2.1)
                  have G8 := Lib.hid (Ea.Glob.below B8.out G.out)
                  have s0 := blk_cell KR8.out 0
                  have s1 := blk_cell KR8.out 1
                  go_wp2_with fail
                  refine (fs _ T8.out O8.out G8.out).mono ?_
                  rintro ev w12 ⟨rfl, hs⟩
                  have B12 := Lib.hid (B8.out.trans (hs.mono B8.out.size))
                  clear hs s0 s1
                  go_wp2_with fail
                  refine (awakeM _).mono ?_
                  rintro ev w13 ⟨rfl, hs⟩
                  have B13 := Lib.hid ((B0.out.trans (B12.out.mono B0.out.size)).trans (hs.mono (B0.out.trans (B12.out.mono B0.out.size)).size))
                  clear hs
                  go_wp2
                  go_ret
                  exact ⟨rfl, B13.out⟩
            | some i =>
              have F := Lib.hid (take_give hf)
              rw [F.out.1, errV_at F.out.2.1]
              have T4 := Lib.hid hT
              clear hT
              go_wp2_with fail
              refine (give_any _ ab pb n _ i T4.out).mono ?_
              rintro ev w5 ⟨rfl, hT, hkk⟩
              rw [F.out.2.2.2] at hT
              rw [errV_at F.out.2.2.1]
              have T5 := Lib.hid hT
              have O5 := Lib.hid (T4.out.keepUp O4.out hkk)
              have K5 := Lib.hid (blk_keep K4.out hkk SR.out.2.1)
              have B5 := Lib.hid (B4.out.trans (hkk.below (n := W.heap.size) (fun k e => e ▸ S1.out.2) B4.out.size))
              have G5 := Lib.hid (Ea.Glob.below B5.out G.out)
              have t0 := blk_cell K5.out 0
              have t1 := blk_cell K5.out 1
              clear hT hkk
              go_wp2_with fail
              refine (fs _ T5.out O5.out G5.out).mono ?_
              rintro ev w6 ⟨rfl, hs⟩
              have T6 := Lib.hid (T5.out.low hs)
              have O6 := Lib.hid (O5.out.below hs)
              have K6 := Lib.hid (blk_step K5.out hs)
              have B6 := Lib.hid (B5.out.trans (hs.mono B5.out.size))
              have s0 := blk_cell K6.out 0
              have s1 := blk_cell K6.out 1
              have fp := rf_pages n (.slice a4 N4 c4) us L w6 O6.out.sv RO.out.1 T6.out.len T6.out.hi
              unfold refT at fp
              clear hs
              go_wp2_with fail
              refine fp.mono ?_
              rintro ev w7 ⟨v7, rfl, ho, hs⟩
              obtain ⟨M, hM⟩ : ∃ M, (usedT L).length = M := ⟨_, rfl⟩
              have UM := Lib.hid hM
              obtain ⟨a7, c7, rfl, -, -⟩ := ho.lenN hM
              have U7 := Lib.hid ho
              have PB6 := Lib.hid (show pb < w6.heap.size from T6.out.ltP)
              have T7 := Lib.hid (T6.out.low hs)
              have O7 := Lib.hid (O6.out.below hs)
              have K7 := Lib.hid (blk_step K6.out hs)
              have B7 := Lib.hid (B6.out.trans (hs.mono B6.out.size))
              clear hs ho fp s0 s1 hM
              go_wp2_with fail
              go_loopg [79] M (fun r i wz => ∃ j : Nat, j + r = M ∧ i = .int .i64 j ∧ TabAt wz ab pb n L ∧ Kept (fun k => k = pb) w7 wz)
              case atStart => exact ⟨0, by omega, rfl, T7.out, Kept.refl _ _⟩
              case round =>
                obtain ⟨j, hj, rfl, hT, hkk⟩ := hrel
                have T8 := Lib.hid hT
                have K8 := Lib.hid hkk
                have B8 := Lib.hid (B7.out.trans (hkk.below (n := W.heap.size) (fun k e => e ▸ S1.out.2) B7.out.size))
                have HJ := Lib.hid hj
                clear hT hkk hj
                by_cases hjl : j < M
                · obtain ⟨pp, hp⟩ : ∃ p, (usedT L)[j]? = some p := ⟨_, List.getElem?_eq_getElem (by rw [UM.out]; exact hjl)⟩
                  obtain ⟨i2, ⟨r1, r2⟩, rfl, hL⟩ := used_at hp
                  obtain ⟨g7, hg7⟩ := U7.out.addrN (by omega)
                  subst hg7
                  have ce := (U7.out.kept K8.out (U7.out.out (fun k e => by have := PB6.out; omega))).sv.cellAt (j := 0) hp rfl
                  simp only [lInt, Nat.mul_one, Nat.add_zero, Nat.zero_add] at ce
                  have HD := Lib.hid (show headT L i2 = (r1, r2) ∧ codeT L i2 = 0 from ⟨headT_at hL, by rw [codeT_at hL]; rfl⟩)
                  have ST := Lib.hid (swap_to (x := (xs, xg)) hL)
                  have SF := Lib.hid (swap_fro (x := (xs, xg)) hL)
                  have LM : M ≤ 256 := by
                    have q1 := usedTo_len L L.length
                    have q2 : (usedTo L L.length).length = M := UM.out
                    have q3 := T7.out.len
                    have q4 := T7.out.hi
                    omega
                  have i1 : IntKind.i64.wrap ((j : Int) + 1) = (j : Int) + 1 := Go.IntWalk.i64_in _ (by omega)
                  have j3 : (0 : Int) ≤ (j : Int) := by omega
                  have j4 : (j : Int) < (M : Int) := by omega
                  clear hp hL
                  go_wp2_with fail
                  refine (head_any _ ab pb n L i2 T8.out).mono ?_
                  rintro ev w8 ⟨rfl, hs⟩
                  rw [HD.out.1, errV_at HD.out.2]
                  unfold refV
                  have bx := alloc_below0 w8 (.cells #[.int .i64 r1, .int .i64 r2] 32)
                  have kx := RfAt.new w8 r1 r2 32
                  obtain ⟨w9, hw9⟩ : ∃ W, W = w8.alloc (.cells #[.int .i64 r1, .int .i64 r2] 32) := ⟨_, rfl⟩
                  rw [← hw9] at bx kx
                  have T9 := Lib.hid ((T8.out.low hs).low bx)
                  have B9 := Lib.hid ((B8.out.trans (hs.mono B8.out.size)).trans (bx.mono (B8.out.trans (hs.mono B8.out.size)).size))
                  have K9 := Lib.hid ((K8.out.trans (Kept.of_below hs)).trans (Kept.of_below bx))
                  have H9 := Lib.hid (show RfAt w9 w8.heap.size r1 r2 ∧ ¬ w8.heap.size = pb from ⟨kx, by have := (T8.out.low hs).ltP; omega⟩)
                  have X9 := Lib.hid (X0.out.step B9.out)
                  have h0 := H9.out.1.c0
                  have h1 := H9.out.1.c1
                  have x0 := X9.out.c0
                  have x1 := X9.out.c1
                  rw [hw9] at h0 h1 x0 x1
                  clear hs bx kx
                  go_wp2_with fail
                  rw [← hw9]
                  clear h0 h1 x0 x1 hw9
                  refine (swap_any _ ab pb n L i2 r1 r2 xs xg T9.out).mono ?_
                  rintro ev w10 ⟨rfl, hT, hkk⟩
                  rw [ST.out.1, errV_at ST.out.2.1]
                  rw [ST.out.2.2] at hT
                  have T10 := Lib.hid hT
                  have B10 := Lib.hid (B9.out.trans (hkk.below (n := W.heap.size) (fun k e => e ▸ S1.out.2) B9.out.size))
                  have K10 := Lib.hid (K9.out.trans hkk)
                  have H10 := Lib.hid (H9.out.1.keep hkk H9.out.2)
                  have X10 := Lib.hid (X0.out.step B10.out)
                  have h0 := H10.out.c0
                  have h1 := H10.out.c1
                  have x0 := X10.out.c0
                  have x1 := X10.out.c1
                  clear hT hkk
                  go_wp2_with fail
                  clear h0 h1 x0 x1
                  refine (swap_any _ ab pb n _ i2 xs xg r1 r2 T10.out).mono ?_
                  rintro ev w11 ⟨rfl, hT, hkk⟩
                  rw [SF.out.1, errV_at SF.out.2.1]
                  rw [SF.out.2.2] at hT
                  have T11 := Lib.hid hT
                  have K11 := Lib.hid (K10.out.trans hkk)
                  clear hT hkk
                  go_wp2_with fail
                  go_roundg (M - (j + 1))
                  case measure => have := HJ.out; omega
                  case rel => exact ⟨j + 1, by omega, by go_num, T11.out, K11.out⟩
                · obtain rfl : j = M := by have := HJ.out; omega
                  have O8 := Lib.hid (T7.out.keepUp O7.out K8.out)
                  have KR8 := Lib.hid (blk_keep K7.out K8.out SR.out.2.1)
                  have G8 := Lib.hid (Ea.Glob.below B8.out G.out)
                  have s0 := blk_cell KR8.out 0
                  have s1 := blk_cell KR8.out 1
                  go_wp2_with fail
                  refine (fs _ T8.out O8.out G8.out).mono ?_
                  rintro ev w12 ⟨rfl, hs⟩
                  have B12 := Lib.hid (B8.out.trans (hs.mono B8.out.size))
                  clear hs s0 s1
                  go_wp2_with fail
                  refine (awakeM _).mono ?_
                  rintro ev w13 ⟨rfl, hs⟩
                  have B13 := Lib.hid ((B0.out.trans (B12.out.mono B0.out.size)).trans (hs.mono (B0.out.trans (B12.out.mono B0.out.size)).size))
                  clear hs
                  go_wp2
                  go_ret
                  exact ⟨rfl, B13.out⟩
end Go.Proofs.YtfdgfonffocenaaDoor
