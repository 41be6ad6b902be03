/- The walk of the law InnerDrops, out of package inner's contracts. -/
import Derived.Test.YtghdlfpobfimlaaInRef
import Derived.Test.YtghdlfpobfimlaaInLast
namespace Go.Proofs.Ytghdlfpobfimlaa
open Go.RowKit

def hdObj (p l : Int) (k : ByteArray) : Obj := .cells #[.int .i64 p, .int .i64 l, .string k] 27
/-- block n holds a hold -/
structure DB (n : Nat) (p l : Int) (k : ByteArray) (w : World) : Prop where
  c0 : w.cell? ⟨n, 0, none⟩ = some (.int .i64 p)
  c1 : w.cell? ⟨n, 1, none⟩ = some (.int .i64 l)
  c2 : w.cell? ⟨n, 2, none⟩ = some (.string k)
theorem DB.below {n : Nat} {p l : Int} {k : ByteArray} {w w' : World} (h : DB n p l k w) (hs : Below w.heap.size w w') : DB n p l k w' := ⟨cell_step h.c0 hs, cell_step h.c1 hs, cell_step h.c2 hs⟩
theorem DB.new (p l : Int) (k : ByteArray) (w : World) : DB w.heap.size p l k (w.alloc (hdObj p l k)) := ⟨by rw [hdObj, World.cell?_alloc_at _ _ _ _ rfl]; rfl, by rw [hdObj, World.cell?_alloc_at _ _ _ _ rfl]; rfl, by rw [hdObj, World.cell?_alloc_at _ _ _ _ rfl]; rfl⟩
theorem all_cons2 {l : List RecD} {r s : RecD} (hr : innerB r = true) (hs : innerB s = true) (hc : codeI l = 0) : (r :: s :: l).all innerB = true := by
  rw [List.all_cons, hr, all_cons hs hc]; rfl
set_option maxRecDepth 100000 in
set_option maxHeartbeats 4000000 in
theorem lawDrops (C : InC) (u : Value) (ds : List RcD) (page : Int) (key : ByteArray) (w : World) (hv : ChW w u ds) (hk : key.size ≤ maxLen) :
    Calls Try.prog 5 #[u, .int .i64 page, .string key] w fun ev w' => ev = .returned (.bool true) ∧ Below w.heap.size w w' := by
  have hnot : ∀ (x : Bool) (w : World), (Op.unary .not (.bool x)).run Try.prog w = .ok (.bool (!x)) w := fun _ _ => rfl
  have HK := Lib.hid hk
  have L0 := Lib.hid hv
  have B0 := Lib.hid (Below.refl w.heap.size w)
  unfold maxLen at hk
  clear hv
  go_enter Try.func5, Try.ntmps5
  go_wp2_with fail
  refine (fewI_any u ds _ L0.out).mono ?_
  rintro ev w1 ⟨b, rfl, hok, hs⟩
  have L1 := Lib.hid (L0.out.below hs)
  have B1 := Lib.hid (B0.out.trans (hs.mono B0.out.size))
  clear L0 B0
  clear hs
  cases b with
  | false =>
    clear hok
    go_wp2_with fail
    refine (awakeI C _).mono ?_
    rintro ev w2 ⟨rfl, hs⟩
    have L2 := Lib.hid (L1.out.below hs)
    have B2 := Lib.hid (B1.out.trans (hs.mono B1.out.size))
    clear L1 B1
    clear hs
    go_wp2
    go_ret
    exact ⟨rfl, B2.out⟩
  | true =>
    have FW := Lib.hid (hok rfl)
    clear hok
    by_cases h100 : key.size ≤ 100
    · have SZ := Lib.hid B1.out.size
      go_wp2_with fail
      refine (ownI_any u ds _ L1.out (by have := FW.out.1; omega)).mono ?_
      rintro ev w2 ⟨x, dx, rfl, hx, hR1, hs⟩
      have L2 := Lib.hid (L1.out.below hs)
      have B2 := Lib.hid (B1.out.trans (hs.mono B1.out.size))
      clear L1 B1
      have X0 := Lib.hid (hx.mono SZ.out)
      clear hs hx SZ
      have R1 := Lib.hid hR1
      have R1L := Lib.hid (few_read FW.out hR1)
      clear hR1
      go_wp2_with fail
      refine (C.fold _ x dx _ X0.out (by have := R1L.out.1; omega) (by have := R1L.out.2; omega)).mono ?_
      rintro ev w3 ⟨en, rfl, hen, hsz, hs⟩
      rw [R1.out] at hen hsz
      rw [R1.out]
      have L3 := Lib.hid (L2.out.below hs)
      have B3 := Lib.hid (B2.out.trans (hs.mono B2.out.size))
      have X1 := Lib.hid (X0.out.below hs)
      clear L2 B2 X0
      have E0 := Lib.hid (hen)
      have Z0 := Lib.hid (hsz)
      clear hs hen hsz
      obtain ⟨v, hv⟩ : ∃ v, viewI (readC ds) = v := ⟨_, rfl⟩
      rw [hv] at E0 Z0
      rw [hv]
      obtain ⟨m, hm⟩ : ∃ m, v.ents.length = m := ⟨_, rfl⟩
      obtain ⟨xa, xc, rfl, -, -⟩ := E0.out.lenN hm
      have HM := Lib.hid hm
      have N1 := Lib.hid hv
      clear hv hm
      unfold ivVal
      by_cases hc : codeI (readC ds) = 0
      · have EBd := Lib.hid E0.out.bounds
        have W3 := Lib.hid B3.out.size
        rw [errV_zero hc]
        have HC := Lib.hid hc
        have HF := Lib.hid (viewI_some hc N1.out)
        have HG := Lib.hid (goodI_fold HF.out)
        have HL := Lib.hid (show v.ents.length ≤ 1000 from fold_lenI HF.out (by have := FW.out.2.1; have := FW.out.1; rw [totalI_read]; simp only [readC, List.length_map]; omega))
        clear hc
        have hs := alloc_below0 w3 (ivObj v (.slice xa m xc))
        have L4 := Lib.hid (L3.out.below hs)
        have B4 := Lib.hid (B3.out.trans (hs.mono B3.out.size))
        have X2 := Lib.hid (X1.out.below hs)
        have E1 := Lib.hid (E0.out.below hs)
        clear L3 B3 X1 E0
        have V0 := Lib.hid (VB.new v (.slice xa m xc) w3)
        have H0 := Lib.hid (HB.new (ivObj v (.slice xa m xc)) w3)
        clear hs
        unfold ivObj at L4 B4 X2 E1 V0 H0
        have v_0 := V0.out.c0
        have v_1 := V0.out.c1
        have v_2 := V0.out.c2
        have v_3 := V0.out.c3
        have v_4 := V0.out.c4
        have v_5 := V0.out.c5
        have v_6 := V0.out.c6
        have v_7 := V0.out.c7
        have v_8 := V0.out.c8
        go_wp2_with fail
        refine (C.hold4 _ v (.slice xa m xc) page _ E1.out HG.out.ris HL.out Z0.out).mono ?_
        rintro ev w4 ⟨rfl, hs⟩
        clear v_0 v_1 v_2 v_3 v_4 v_5 v_6 v_7 v_8
        have L5 := Lib.hid (L4.out.below hs)
        have B5 := Lib.hid (B4.out.trans (hs.mono B4.out.size))
        have X3 := Lib.hid (X2.out.below hs)
        have E2 := Lib.hid (E1.out.below hs)
        have V1 := Lib.hid (V0.out.below hs)
        have H1 := Lib.hid (H0.out.below hs)
        clear L4 B4 X2 E1 V0 H0
        clear hs
        cases hp : pageE v.ents page with
        | none =>
          rw [show holdE v page = (hdVal 0 0 ⟨#[]⟩, 6) by unfold holdE; rw [hp], errV_code (show (6 : Int) ≠ 0 by decide)]
          clear hp
          unfold hdVal
          have hs := alloc_below0 w4 (hdObj 0 0 ⟨#[]⟩)
          have L6 := Lib.hid (L5.out.below hs)
          have B6 := Lib.hid (B5.out.trans (hs.mono B5.out.size))
          have X4 := Lib.hid (X3.out.below hs)
          have E3 := Lib.hid (E2.out.below hs)
          have V2 := Lib.hid (V1.out.below hs)
          have H2 := Lib.hid (H1.out.below hs)
          clear L5 B5 X3 E2 V1 H1
          clear hs
          unfold hdObj at L6 B6 X4 E3 V2 H2
          go_wp2_with fail
          refine (awakeI C _).mono ?_
          rintro ev w5 ⟨rfl, hs⟩
          have L7 := Lib.hid (L6.out.below hs)
          have B7 := Lib.hid (B6.out.trans (hs.mono B6.out.size))
          have X5 := Lib.hid (X4.out.below hs)
          have E4 := Lib.hid (E3.out.below hs)
          have V3 := Lib.hid (V2.out.below hs)
          have H3 := Lib.hid (H2.out.below hs)
          clear L6 B6 X4 E3 V2 H2
          clear hs
          go_wp2
          go_ret
          exact ⟨rfl, B7.out⟩
        | some i =>
          rw [show holdE v page = (hdVal page (v.ents.getD i e0).2 (v.ents.getD (i + 1) e0).1, 0) by unfold holdE; rw [hp], errV_zero rfl]
          unfold hdVal
          have HP := Lib.hid hp
          clear hp
          obtain ⟨hl, hhl⟩ : ∃ l, (v.ents.getD i e0).2 = l := ⟨_, rfl⟩
          obtain ⟨hk4, hhk⟩ : ∃ k, (v.ents.getD (i + 1) e0).1 = k := ⟨_, rfl⟩
          rw [hhl, hhk]
          have hs := alloc_below0 w4 (hdObj page hl hk4)
          have L6 := Lib.hid (L5.out.below hs)
          have B6 := Lib.hid (B5.out.trans (hs.mono B5.out.size))
          have X4 := Lib.hid (X3.out.below hs)
          have E3 := Lib.hid (E2.out.below hs)
          have V2 := Lib.hid (V1.out.below hs)
          have H2 := Lib.hid (H1.out.below hs)
          clear L5 B5 X3 E2 V1 H1
          have D0 := Lib.hid (DB.new page hl hk4 w4)
          clear hs
          unfold hdObj at L6 B6 X4 E3 V2 H2 D0
          have v_5 := V2.out.c5
          cases hh : v.held with
          | true =>
            rw [hh] at v_5
            clear hh
            go_wp2_with fail
            refine (awakeI C _).mono ?_
            rintro ev w5 ⟨rfl, hs⟩
            clear v_5
            have L7 := Lib.hid (L6.out.below hs)
            have B7 := Lib.hid (B6.out.trans (hs.mono B6.out.size))
            have X5 := Lib.hid (X4.out.below hs)
            have E4 := Lib.hid (E3.out.below hs)
            have V3 := Lib.hid (V2.out.below hs)
            have H3 := Lib.hid (H2.out.below hs)
            have D1 := Lib.hid (D0.out.below hs)
            clear L6 B6 X4 E3 V2 H2 D0
            clear hs
            go_wp2
            go_ret
            exact ⟨rfl, B7.out⟩
          | false =>
            rw [hh] at v_5
            have HH := Lib.hid hh
            clear hh
            have DM := Lib.hid (drop_math HF.out HH.out HP.out)
            rw [hhl, hhk] at DM
            have KS := Lib.hid (show hk4.size ≤ maxLen from by rw [← hhk]; exact Z0.out.ents _ (List.mem_of_getElem? (i := i + 1) (by rw [List.getD, List.getElem?_eq_getElem (pageE_some HP.out).1]; rfl)))
            clear hhl hhk
            go_wp2_with fail
            clear v_5
            generalize hw5 : World.alloc w4 _ = w5 at *
            clear hw5
            have CY := Lib.hid (code_yes (all_cons (r := holdI10 page hl hk4) rfl HC.out) DM.out.1)
            have SC := Lib.hid (show ∀ s ∈ [(⟨10, ⟨#[]⟩, ⟨#[]⟩, false, 0, ⟨#[]⟩, ⟨#[]⟩, 0, page, hl, hk4, 0, 0⟩ : Sc)], SzS s from fun s h => by simp only [List.mem_cons, List.not_mem_nil, or_false] at h; subst h; exact ⟨show 0 ≤ maxLen by decide, show 0 ≤ maxLen by decide, show 0 ≤ maxLen by decide, show 0 ≤ maxLen by decide, KS.out⟩)
            have S_L := L6
            have S_B := B6
            have S_X := X4
            have S_E := E3
            have S_V := V2
            have S_H := H2
            have S_D := D0
            have W0 := Lib.hid (Below.refl w5.heap.size w5)
            have HSL := Lib.hid (show ∀ w', Below w5.heap.size w5 w' → (fun w' => w'.cell? ⟨w4.heap.size, 0, none⟩ = some (.int .i64 page) ∧ w'.cell? ⟨w4.heap.size, 1, none⟩ = some (.int .i64 hl) ∧ w'.cell? ⟨w4.heap.size, 2, none⟩ = some (.string hk4)) w' from fun w' hs => ⟨(S_D.out.below hs).c0, (S_D.out.below hs).c1, (S_D.out.below hs).c2⟩)
            have FL := Lib.hid (show ds.length ≤ 1000 by have := FW.out.1; omega)
            go_cut [11, 12] from 19 (fun sp se wcA => ∃ (nb : Nat) (za : Option Addr) (zc : Nat), sp = .pointer (some ⟨nb, 0, none⟩) ∧ se = .nilIface ∧ VB nb ⟨v.low, v.high, v.unb, v.right, v.ents, true, page, hl, hk4⟩ (.slice za m zc) wcA ∧ OwnS lEnt w5.heap.size wcA (.slice za m zc) (⟨v.low, v.high, v.unb, v.right, v.ents, true, page, hl, hk4⟩ : IvD).ents ∧ SzI ⟨v.low, v.high, v.unb, v.right, v.ents, true, page, hl, hk4⟩ ∧ Below w5.heap.size w5 wcA)
            case first =>
              refine AnyBut.region (fun w' => w'.cell? ⟨w4.heap.size, 0, none⟩ = some (.int .i64 page) ∧ w'.cell? ⟨w4.heap.size, 1, none⟩ = some (.int .i64 hl) ∧ w'.cell? ⟨w4.heap.size, 2, none⟩ = some (.string hk4)) 12 (by kernel_rfl) ?_
              have BB := Lib.hid (Below.refl w5.heap.size w5).drew
              have YL := Lib.hid (S_L.out.below (Below.refl _ _).drew)
              have LS := Lib.hid (show w5.drew.heap.size = w5.heap.size from rfl)
              obtain ⟨q0, hq0⟩ : ∃ W, W = World.drew w5 := ⟨_, rfl⟩
              rw [← hq0] at BB YL LS ⊢
              clear hq0
              have SD := Lib.hid (HSL.out q0 BB.out)
              refine AnyBut.take (i := 0) (oi := ⟨some 52, _, _, _, _, none⟩) (v := ?vA0) rfl (by kernel_rfl) (by kernel_rfl) (by kernel_rfl) (by kernel_rfl) (fun _ _ _ h => h) (Or.inl ⟨by rfl, ?hyA0⟩) SD.out ?restA0
              case hyA0 => (intro w hSw; go_simp; try (with_reducible rfl))
              simp only [Act.put, List.setIfInBounds_toArray, List.set_cons_zero, List.set_cons_succ]
              refine AnyBut.take (i := 1) (oi := ⟨some 53, _, _, _, _, none⟩) (v := ?vA1) rfl (by kernel_rfl) (by kernel_rfl) (by kernel_rfl) (by kernel_rfl) (fun _ _ _ h => h) (Or.inl ⟨by rfl, ?hyA1⟩) SD.out ?restA1
              case hyA1 => (intro w hSw; go_simp; try (with_reducible rfl))
              simp only [Act.put, List.setIfInBounds_toArray, List.set_cons_zero, List.set_cons_succ]
              refine AnyBut.take (i := 3) (oi := ⟨some 55, _, _, _, _, none⟩) (v := ?vA3) rfl (by kernel_rfl) (by kernel_rfl) (by kernel_rfl) (by kernel_rfl) (fun _ _ _ h => h) (Or.inl ⟨by rfl, ?hyA3⟩) SD.out ?restA3
              case hyA3 => (intro w hSw; go_simp; try (with_reducible rfl))
              simp only [Act.put, List.setIfInBounds_toArray, List.set_cons_zero, List.set_cons_succ]
              clear SD
              refine AnyBut.three (i := 2) (j := 4) (k := 10) (o := ⟨some 54, _, _, _, _, none⟩) (u := ⟨some 56, _, _, _, _, none⟩) (x := ⟨some 11, _, _, _, _, none⟩) (by kernel_rfl) rfl rfl rfl (fun K hK => ?_) (fun K hK => ?_) (fun K hK => ?_)
              · have hb := alloc_below0 q0 (.cells #[.int .i64 10, .string ⟨#[]⟩, .string ⟨#[]⟩, .bool false, .int .i64 0, .slice none 0 0, .slice none 0 0, .string ⟨#[]⟩, .string ⟨#[]⟩, .int .i64 0, .int .i64 page, .int .i64 hl, .string hk4, .int .i64 0, .int .i64 0] 46)
                have KB := Lib.hid (HB.new (.cells #[.int .i64 10, .string ⟨#[]⟩, .string ⟨#[]⟩, .bool false, .int .i64 0, .slice none 0 0, .slice none 0 0, .string ⟨#[]⟩, .string ⟨#[]⟩, .int .i64 0, .int .i64 page, .int .i64 hl, .string hk4, .int .i64 0, .int .i64 0] 46) q0)
                have NZ := Lib.hid (show w5.heap.size ≤ q0.heap.size from BB.out.size)
                have NB := Lib.hid NZ.out
                have BB := Lib.hid (BB.out.trans (hb.mono BB.out.size))
                have YL := Lib.hid (YL.out.below hb)
                have SN := HSL.out _ BB.out
                go_simp
                refine hK.out _ _ (fun _ => SN) ?_
                clear hK K SN hb NZ
                generalize hG : World.alloc q0 _ = q1 at BB YL KB ⊢
                clear hG
                try simp only [Act.put, List.setIfInBounds_toArray, List.set_cons_zero, List.set_cons_succ]
                refine AnyBut.two (i := 4) (j := 10) (o := ⟨some 56, _, _, _, _, none⟩) (u := ⟨some 11, _, _, _, _, none⟩) (by kernel_rfl) rfl rfl (fun K hK => ?_) (fun K hK => ?_)
                · go_simp
                  refine (ownI_any u ds q1 YL.out FL.out).mono ?_
                  rintro ev q2 ⟨y, dy, rfl, hy, hr, hs⟩
                  have RY := Lib.hid hr
                  have YY := Lib.hid (hy.mono BB.out.size)
                  have BB := Lib.hid (BB.out.trans (hs.mono BB.out.size))
                  have KB := Lib.hid (KB.out.below hs)
                  have SN := HSL.out _ BB.out
                  clear hy hr hs YL
                  refine hK.out _ _ (fun _ => SN) ?_
                  clear hK K SN
                  try simp only [Act.put, List.setIfInBounds_toArray, List.set_cons_zero, List.set_cons_succ]
                  refine AnyBut.two (i := 5) (j := 10) (o := ⟨some 57, _, _, _, _, none⟩) (u := ⟨some 11, _, _, _, _, none⟩) (by kernel_rfl) rfl rfl (fun K hK => ?_) (fun K hK => ?_)
                  · have PP := ChO.of_blk (base := w5.heap.size) (ss := [(⟨10, ⟨#[]⟩, ⟨#[]⟩, false, 0, ⟨#[]⟩, ⟨#[]⟩, 0, page, hl, hk4, 0, 0⟩ : Sc)]) NB.out KB.out (show 1 ≤ maxLen by decide) SC.out
                    refine step_appS lRec 22 Try.underlying22 lRec_known (by decide) (by decide) rfl (.tmp 54) (.tmp 56) rfl w5.heap.size rfl rfl PP.own YY.out.own.sv (by have := (few_read FW.out RY.out).1; simp; omega) BB.out.size ?_
                    intro v7 q3 ho hg
                    have QQ := Lib.hid (PP.append YY.out (Nat.le_refl _) ho hg)
                    have BB := Lib.hid (BB.out.grown hg BB.out.size (fun k hk => (World.ownsRow.lt PP.own k hk).1))
                    have SN := HSL.out _ BB.out
                    clear PP ho hg KB YY NB
                    refine hK.out _ _ (fun _ => SN) ?_
                    clear hK K SN
                    try simp only [Act.put, List.setIfInBounds_toArray, List.set_cons_zero, List.set_cons_succ]
                    refine AnyBut.two (i := 6) (j := 10) (o := ⟨some 58, _, _, _, _, none⟩) (u := ⟨some 11, _, _, _, _, none⟩) (by kernel_rfl) rfl rfl (fun K hK => ?_) (fun K hK => ?_)
                    · have RQ := (show readC (([(⟨10, ⟨#[]⟩, ⟨#[]⟩, false, 0, ⟨#[]⟩, ⟨#[]⟩, 0, page, hl, hk4, 0, 0⟩ : Sc)].map fun s => (⟨s, none, 0, none, 0, [], []⟩ : RcD)) ++ dy) = holdI10 page hl hk4 :: readC ds by (rw [readC_app, RY.out]; rfl))
                      have e1 := (show (([(⟨10, ⟨#[]⟩, ⟨#[]⟩, false, 0, ⟨#[]⟩, ⟨#[]⟩, 0, page, hl, hk4, 0, 0⟩ : Sc)].map fun s => (⟨s, none, 0, none, 0, [], []⟩ : RcD)) ++ dy).length ≤ 100 by (have := (few_read FW.out RY.out).1; simp; omega))
                      have e2 := (show ((([(⟨10, ⟨#[]⟩, ⟨#[]⟩, false, 0, ⟨#[]⟩, ⟨#[]⟩, 0, page, hl, hk4, 0, 0⟩ : Sc)].map fun s => (⟨s, none, 0, none, 0, [], []⟩ : RcD)) ++ dy).map fun d => d.ents.length).sum ≤ 1000 by (have := (few_read FW.out RY.out).2; simp; omega))
                      go_simp
                      refine (C.fold _ _ _ q3 QQ.out e1 e2).mono ?_
                      rintro ev q4 ⟨en2, rfl, hen, hsz, hs⟩
                      rw [RQ, CY.out.2] at hen hsz
                      rw [RQ, CY.out.1, CY.out.2, errV_zero rfl]
                      obtain ⟨za, zc, rfl, -, -⟩ := hen.lenN HM.out
                      unfold ivVal
                      have EE := Lib.hid (hen.mono BB.out.size)
                      have ZZ := Lib.hid hsz
                      have BB := Lib.hid (BB.out.trans (hs.mono BB.out.size))
                      have SN := HSL.out _ BB.out
                      clear hen hsz hs RQ e1 e2 QQ
                      refine hK.out _ _ (fun _ => SN) ?_
                      clear hK K SN
                      have SX := Lib.hid (HSL.out _ BB.out)
                      refine AnyBut.take (i := 7) (oi := ⟨some 51, _, _, _, _, none⟩) (v := ?vAx17) rfl (by kernel_rfl) (by kernel_rfl) (by kernel_rfl) (by kernel_rfl) (fun _ _ _ h => h) (Or.inl ⟨by rfl, ?hyAx17⟩) SX.out ?restAx17
                      case hyAx17 => (intro w hSw; go_simp; try (with_reducible rfl))
                      simp only [Act.put, List.setIfInBounds_toArray, List.set_cons_zero, List.set_cons_succ]
                      refine AnyBut.take (i := 8) (oi := ⟨some 59, _, _, _, _, none⟩) (v := ?vAx18) rfl (by kernel_rfl) (by kernel_rfl) (by kernel_rfl) (by kernel_rfl) (fun _ _ _ h => h) (Or.inl ⟨by rfl, ?hyAx18⟩) SX.out ?restAx18
                      case hyAx18 => (intro w hSw; go_simp; try (with_reducible rfl))
                      simp only [Act.put, List.setIfInBounds_toArray, List.set_cons_zero, List.set_cons_succ]
                      refine AnyBut.take (i := 9) (oi := ⟨some 60, _, _, _, _, none⟩) (v := ?vAx19) rfl (by kernel_rfl) (by kernel_rfl) (by kernel_rfl) (by kernel_rfl) (fun _ _ _ h => h) (Or.inl ⟨by rfl, ?hyAx19⟩) SX.out ?restAx19
                      case hyAx19 => (intro w hSw; go_simp; try (with_reducible rfl))
                      simp only [Act.put, List.setIfInBounds_toArray, List.set_cons_zero, List.set_cons_succ]
                      clear SX
                      refine AnyBut.one (i := 10) (o := ⟨some 11, _, _, _, _, none⟩) (by kernel_rfl) rfl (fun K hK => ?_)
                      have hb := alloc_below0 q4 (.cells #[.string ⟨#[]⟩, .string ⟨#[]⟩, .bool false, .int .i64 0, .slice none 0 0, .bool false, .int .i64 0, .int .i64 0, .string ⟨#[]⟩] 29)
                      have KA := Lib.hid (HB.new (.cells #[.string ⟨#[]⟩, .string ⟨#[]⟩, .bool false, .int .i64 0, .slice none 0 0, .bool false, .int .i64 0, .int .i64 0, .string ⟨#[]⟩] 29) q4)
                      have NZ := Lib.hid (show w5.heap.size ≤ q4.heap.size from BB.out.size)
                      have NA := Lib.hid NZ.out
                      have BB := Lib.hid (BB.out.trans (hb.mono BB.out.size))
                      have EE := Lib.hid (EE.out.below hb)
                      have SN := HSL.out _ BB.out
                      go_simp
                      refine hK.out _ _ (fun _ => SN) ?_
                      clear hK K SN hb NZ
                      generalize hG : World.alloc q4 _ = q5 at BB KA EE ⊢
                      clear hG
                      try simp only [Act.put, List.setIfInBounds_toArray, List.set_cons_zero, List.set_cons_succ]
                      have KS := KA.out.sets (ivCells ⟨v.low, v.high, v.unb, v.right, v.ents, true, page, hl, hk4⟩ (.slice za m zc)) rfl
                      have ES := EE.out.kept (Kept.setCells (ivCells ⟨v.low, v.high, v.unb, v.right, v.ents, true, page, hl, hk4⟩ (.slice za m zc)) 0 _ (Kept.refl (fun x => x = _) _)) (EE.out.apart KA.out (show lEnt.ty ≠ 29 by decide))
                      have BS := below_setCells NA.out (ivCells ⟨v.low, v.high, v.unb, v.right, v.ents, true, page, hl, hk4⟩ (.slice za m zc)) 0 _ BB.out
                      have SN := HSL.out _ BS
                      refine AnyBut.one (i := 11) (o := ⟨none, _, _, _, _, none⟩) (by kernel_rfl) rfl (fun K hK => ?_)
                      rw [if_pos (by rfl)]
                      refine wp_store_mid 29 (.tmp 11) (.tmp 59) rfl _ 0 (ivCells ⟨v.low, v.high, v.unb, v.right, v.ents, true, page, hl, hk4⟩ (.slice za m zc)).toArray rfl rfl (KA.out.there 9 (Nat.le_refl _)) ivInfoS (iv_one _ _ _ _) ?_
                      refine hK.out _ _ (fun _ => SN) ?_
                      clear hK K
                      try simp only [Act.put]
                      refine AnyBut.one (i := 12) (o := ⟨some 12, _, _, _, _, none⟩) (by kernel_rfl) rfl (fun K hK => ?_)
                      go_simp
                      refine hK.out _ _ (fun h => absurd rfl h) ?_
                      clear hK K
                      try simp only [Act.put, List.setIfInBounds_toArray, List.set_cons_zero, List.set_cons_succ]
                      refine AnyBut.done (by kernel_rfl) ?_ _
                      go_wp2
                      go_meet
                      case rel => exact ⟨_, za, zc, rfl, rfl, HB.vb KS, ES, ZZ.out, BS⟩
                    · have hb := alloc_below0 q3 (.cells #[.string ⟨#[]⟩, .string ⟨#[]⟩, .bool false, .int .i64 0, .slice none 0 0, .bool false, .int .i64 0, .int .i64 0, .string ⟨#[]⟩] 29)
                      have KA := Lib.hid (HB.new (.cells #[.string ⟨#[]⟩, .string ⟨#[]⟩, .bool false, .int .i64 0, .slice none 0 0, .bool false, .int .i64 0, .int .i64 0, .string ⟨#[]⟩] 29) q3)
                      have NZ := Lib.hid (show w5.heap.size ≤ q3.heap.size from BB.out.size)
                      have NA := Lib.hid NZ.out
                      have BB := Lib.hid (BB.out.trans (hb.mono BB.out.size))
                      have QQ := Lib.hid (QQ.out.below hb)
                      have SN := HSL.out _ BB.out
                      go_simp
                      refine hK.out _ _ (fun _ => SN) ?_
                      clear hK K SN hb NZ
                      generalize hG : World.alloc q3 _ = q6 at BB KA QQ ⊢
                      clear hG
                      try simp only [Act.put, List.setIfInBounds_toArray, List.set_cons_zero, List.set_cons_succ]
                      refine AnyBut.one (i := 6) (o := ⟨some 58, _, _, _, _, none⟩) (by kernel_rfl) rfl (fun K hK => ?_)
                      have RQ := (show readC (([(⟨10, ⟨#[]⟩, ⟨#[]⟩, false, 0, ⟨#[]⟩, ⟨#[]⟩, 0, page, hl, hk4, 0, 0⟩ : Sc)].map fun s => (⟨s, none, 0, none, 0, [], []⟩ : RcD)) ++ dy) = holdI10 page hl hk4 :: readC ds by (rw [readC_app, RY.out]; rfl))
                      have e1 := (show (([(⟨10, ⟨#[]⟩, ⟨#[]⟩, false, 0, ⟨#[]⟩, ⟨#[]⟩, 0, page, hl, hk4, 0, 0⟩ : Sc)].map fun s => (⟨s, none, 0, none, 0, [], []⟩ : RcD)) ++ dy).length ≤ 100 by (have := (few_read FW.out RY.out).1; simp; omega))
                      have e2 := (show ((([(⟨10, ⟨#[]⟩, ⟨#[]⟩, false, 0, ⟨#[]⟩, ⟨#[]⟩, 0, page, hl, hk4, 0, 0⟩ : Sc)].map fun s => (⟨s, none, 0, none, 0, [], []⟩ : RcD)) ++ dy).map fun d => d.ents.length).sum ≤ 1000 by (have := (few_read FW.out RY.out).2; simp; omega))
                      go_simp
                      refine (C.fold _ _ _ q6 QQ.out e1 e2).mono ?_
                      rintro ev q7 ⟨en2, rfl, hen, hsz, hs⟩
                      rw [RQ, CY.out.2] at hen hsz
                      rw [RQ, CY.out.1, CY.out.2, errV_zero rfl]
                      obtain ⟨za, zc, rfl, -, -⟩ := hen.lenN HM.out
                      unfold ivVal
                      have EE := Lib.hid (hen.mono BB.out.size)
                      have ZZ := Lib.hid hsz
                      have BB := Lib.hid (BB.out.trans (hs.mono BB.out.size))
                      have KA := Lib.hid (KA.out.below hs)
                      have SN := HSL.out _ BB.out
                      clear hen hsz hs RQ e1 e2 QQ
                      refine hK.out _ _ (fun _ => SN) ?_
                      clear hK K SN
                      have SX := Lib.hid (HSL.out _ BB.out)
                      refine AnyBut.take (i := 7) (oi := ⟨some 51, _, _, _, _, none⟩) (v := ?vAx27) rfl (by kernel_rfl) (by kernel_rfl) (by kernel_rfl) (by kernel_rfl) (fun _ _ _ h => h) (Or.inl ⟨by rfl, ?hyAx27⟩) SX.out ?restAx27
                      case hyAx27 => (intro w hSw; go_simp; try (with_reducible rfl))
                      simp only [Act.put, List.setIfInBounds_toArray, List.set_cons_zero, List.set_cons_succ]
                      refine AnyBut.take (i := 8) (oi := ⟨some 59, _, _, _, _, none⟩) (v := ?vAx28) rfl (by kernel_rfl) (by kernel_rfl) (by kernel_rfl) (by kernel_rfl) (fun _ _ _ h => h) (Or.inl ⟨by rfl, ?hyAx28⟩) SX.out ?restAx28
                      case hyAx28 => (intro w hSw; go_simp; try (with_reducible rfl))
                      simp only [Act.put, List.setIfInBounds_toArray, List.set_cons_zero, List.set_cons_succ]
                      refine AnyBut.take (i := 9) (oi := ⟨some 60, _, _, _, _, none⟩) (v := ?vAx29) rfl (by kernel_rfl) (by kernel_rfl) (by kernel_rfl) (by kernel_rfl) (fun _ _ _ h => h) (Or.inl ⟨by rfl, ?hyAx29⟩) SX.out ?restAx29
                      case hyAx29 => (intro w hSw; go_simp; try (with_reducible rfl))
                      simp only [Act.put, List.setIfInBounds_toArray, List.set_cons_zero, List.set_cons_succ]
                      clear SX
                      have KS := KA.out.sets (ivCells ⟨v.low, v.high, v.unb, v.right, v.ents, true, page, hl, hk4⟩ (.slice za m zc)) rfl
                      have ES := EE.out.kept (Kept.setCells (ivCells ⟨v.low, v.high, v.unb, v.right, v.ents, true, page, hl, hk4⟩ (.slice za m zc)) 0 _ (Kept.refl (fun x => x = _) _)) (EE.out.apart KA.out (show lEnt.ty ≠ 29 by decide))
                      have BS := below_setCells NA.out (ivCells ⟨v.low, v.high, v.unb, v.right, v.ents, true, page, hl, hk4⟩ (.slice za m zc)) 0 _ BB.out
                      have SN := HSL.out _ BS
                      refine AnyBut.one (i := 11) (o := ⟨none, _, _, _, _, none⟩) (by kernel_rfl) rfl (fun K hK => ?_)
                      rw [if_pos (by rfl)]
                      refine wp_store_mid 29 (.tmp 11) (.tmp 59) rfl _ 0 (ivCells ⟨v.low, v.high, v.unb, v.right, v.ents, true, page, hl, hk4⟩ (.slice za m zc)).toArray rfl rfl (KA.out.there 9 (Nat.le_refl _)) ivInfoS (iv_one _ _ _ _) ?_
                      refine hK.out _ _ (fun _ => SN) ?_
                      clear hK K
                      try simp only [Act.put]
                      refine AnyBut.one (i := 12) (o := ⟨some 12, _, _, _, _, none⟩) (by kernel_rfl) rfl (fun K hK => ?_)
                      go_simp
                      refine hK.out _ _ (fun h => absurd rfl h) ?_
                      clear hK K
                      try simp only [Act.put, List.setIfInBounds_toArray, List.set_cons_zero, List.set_cons_succ]
                      refine AnyBut.done (by kernel_rfl) ?_ _
                      go_wp2
                      go_meet
                      case rel => exact ⟨_, za, zc, rfl, rfl, HB.vb KS, ES, ZZ.out, BS⟩
                  · have hb := alloc_below0 q2 (.cells #[.string ⟨#[]⟩, .string ⟨#[]⟩, .bool false, .int .i64 0, .slice none 0 0, .bool false, .int .i64 0, .int .i64 0, .string ⟨#[]⟩] 29)
                    have KA := Lib.hid (HB.new (.cells #[.string ⟨#[]⟩, .string ⟨#[]⟩, .bool false, .int .i64 0, .slice none 0 0, .bool false, .int .i64 0, .int .i64 0, .string ⟨#[]⟩] 29) q2)
                    have NZ := Lib.hid (show w5.heap.size ≤ q2.heap.size from BB.out.size)
                    have NE := Lib.hid (show _ ≠ _ from (Nat.ne_of_gt KB.out.lt))
                    have NA := Lib.hid NZ.out
                    have BB := Lib.hid (BB.out.trans (hb.mono BB.out.size))
                    have KB := Lib.hid (KB.out.below hb)
                    have YY := Lib.hid (YY.out.below hb)
                    have SN := HSL.out _ BB.out
                    go_simp
                    refine hK.out _ _ (fun _ => SN) ?_
                    clear hK K SN hb NZ
                    generalize hG : World.alloc q2 _ = q8 at BB KB YY KA ⊢
                    clear hG
                    try simp only [Act.put, List.setIfInBounds_toArray, List.set_cons_zero, List.set_cons_succ]
                    refine AnyBut.one (i := 5) (o := ⟨some 57, _, _, _, _, none⟩) (by kernel_rfl) rfl (fun K hK => ?_)
                    have PP := ChO.of_blk (base := w5.heap.size) (ss := [(⟨10, ⟨#[]⟩, ⟨#[]⟩, false, 0, ⟨#[]⟩, ⟨#[]⟩, 0, page, hl, hk4, 0, 0⟩ : Sc)]) NB.out KB.out (show 1 ≤ maxLen by decide) SC.out
                    refine step_appS lRec 22 Try.underlying22 lRec_known (by decide) (by decide) rfl (.tmp 54) (.tmp 56) rfl w5.heap.size rfl rfl PP.own YY.out.own.sv (by have := (few_read FW.out RY.out).1; simp; omega) BB.out.size ?_
                    intro v7 q9 ho hg
                    have QQ := Lib.hid (PP.append YY.out (Nat.le_refl _) ho hg)
                    have KA := Lib.hid (HB.grown KA.out hg (fun h => NE.out (Option.some.inj h)))
                    have BB := Lib.hid (BB.out.grown hg BB.out.size (fun k hk => (World.ownsRow.lt PP.own k hk).1))
                    have SN := HSL.out _ BB.out
                    clear PP ho hg KB YY NB NE
                    refine hK.out _ _ (fun _ => SN) ?_
                    clear hK K SN
                    try simp only [Act.put, List.setIfInBounds_toArray, List.set_cons_zero, List.set_cons_succ]
                    refine AnyBut.one (i := 6) (o := ⟨some 58, _, _, _, _, none⟩) (by kernel_rfl) rfl (fun K hK => ?_)
                    have RQ := (show readC (([(⟨10, ⟨#[]⟩, ⟨#[]⟩, false, 0, ⟨#[]⟩, ⟨#[]⟩, 0, page, hl, hk4, 0, 0⟩ : Sc)].map fun s => (⟨s, none, 0, none, 0, [], []⟩ : RcD)) ++ dy) = holdI10 page hl hk4 :: readC ds by (rw [readC_app, RY.out]; rfl))
                    have e1 := (show (([(⟨10, ⟨#[]⟩, ⟨#[]⟩, false, 0, ⟨#[]⟩, ⟨#[]⟩, 0, page, hl, hk4, 0, 0⟩ : Sc)].map fun s => (⟨s, none, 0, none, 0, [], []⟩ : RcD)) ++ dy).length ≤ 100 by (have := (few_read FW.out RY.out).1; simp; omega))
                    have e2 := (show ((([(⟨10, ⟨#[]⟩, ⟨#[]⟩, false, 0, ⟨#[]⟩, ⟨#[]⟩, 0, page, hl, hk4, 0, 0⟩ : Sc)].map fun s => (⟨s, none, 0, none, 0, [], []⟩ : RcD)) ++ dy).map fun d => d.ents.length).sum ≤ 1000 by (have := (few_read FW.out RY.out).2; simp; omega))
                    go_simp
                    refine (C.fold _ _ _ q9 QQ.out e1 e2).mono ?_
                    rintro ev q10 ⟨en2, rfl, hen, hsz, hs⟩
                    rw [RQ, CY.out.2] at hen hsz
                    rw [RQ, CY.out.1, CY.out.2, errV_zero rfl]
                    obtain ⟨za, zc, rfl, -, -⟩ := hen.lenN HM.out
                    unfold ivVal
                    have EE := Lib.hid (hen.mono BB.out.size)
                    have ZZ := Lib.hid hsz
                    have BB := Lib.hid (BB.out.trans (hs.mono BB.out.size))
                    have KA := Lib.hid (KA.out.below hs)
                    have SN := HSL.out _ BB.out
                    clear hen hsz hs RQ e1 e2 QQ
                    refine hK.out _ _ (fun _ => SN) ?_
                    clear hK K SN
                    have SX := Lib.hid (HSL.out _ BB.out)
                    refine AnyBut.take (i := 7) (oi := ⟨some 51, _, _, _, _, none⟩) (v := ?vAx37) rfl (by kernel_rfl) (by kernel_rfl) (by kernel_rfl) (by kernel_rfl) (fun _ _ _ h => h) (Or.inl ⟨by rfl, ?hyAx37⟩) SX.out ?restAx37
                    case hyAx37 => (intro w hSw; go_simp; try (with_reducible rfl))
                    simp only [Act.put, List.setIfInBounds_toArray, List.set_cons_zero, List.set_cons_succ]
                    refine AnyBut.take (i := 8) (oi := ⟨some 59, _, _, _, _, none⟩) (v := ?vAx38) rfl (by kernel_rfl) (by kernel_rfl) (by kernel_rfl) (by kernel_rfl) (fun _ _ _ h => h) (Or.inl ⟨by rfl, ?hyAx38⟩) SX.out ?restAx38
                    case hyAx38 => (intro w hSw; go_simp; try (with_reducible rfl))
                    simp only [Act.put, List.setIfInBounds_toArray, List.set_cons_zero, List.set_cons_succ]
                    refine AnyBut.take (i := 9) (oi := ⟨some 60, _, _, _, _, none⟩) (v := ?vAx39) rfl (by kernel_rfl) (by kernel_rfl) (by kernel_rfl) (by kernel_rfl) (fun _ _ _ h => h) (Or.inl ⟨by rfl, ?hyAx39⟩) SX.out ?restAx39
                    case hyAx39 => (intro w hSw; go_simp; try (with_reducible rfl))
                    simp only [Act.put, List.setIfInBounds_toArray, List.set_cons_zero, List.set_cons_succ]
                    clear SX
                    have KS := KA.out.sets (ivCells ⟨v.low, v.high, v.unb, v.right, v.ents, true, page, hl, hk4⟩ (.slice za m zc)) rfl
                    have ES := EE.out.kept (Kept.setCells (ivCells ⟨v.low, v.high, v.unb, v.right, v.ents, true, page, hl, hk4⟩ (.slice za m zc)) 0 _ (Kept.refl (fun x => x = _) _)) (EE.out.apart KA.out (show lEnt.ty ≠ 29 by decide))
                    have BS := below_setCells NA.out (ivCells ⟨v.low, v.high, v.unb, v.right, v.ents, true, page, hl, hk4⟩ (.slice za m zc)) 0 _ BB.out
                    have SN := HSL.out _ BS
                    refine AnyBut.one (i := 11) (o := ⟨none, _, _, _, _, none⟩) (by kernel_rfl) rfl (fun K hK => ?_)
                    rw [if_pos (by rfl)]
                    refine wp_store_mid 29 (.tmp 11) (.tmp 59) rfl _ 0 (ivCells ⟨v.low, v.high, v.unb, v.right, v.ents, true, page, hl, hk4⟩ (.slice za m zc)).toArray rfl rfl (KA.out.there 9 (Nat.le_refl _)) ivInfoS (iv_one _ _ _ _) ?_
                    refine hK.out _ _ (fun _ => SN) ?_
                    clear hK K
                    try simp only [Act.put]
                    refine AnyBut.one (i := 12) (o := ⟨some 12, _, _, _, _, none⟩) (by kernel_rfl) rfl (fun K hK => ?_)
                    go_simp
                    refine hK.out _ _ (fun h => absurd rfl h) ?_
                    clear hK K
                    try simp only [Act.put, List.setIfInBounds_toArray, List.set_cons_zero, List.set_cons_succ]
                    refine AnyBut.done (by kernel_rfl) ?_ _
                    go_wp2
                    go_meet
                    case rel => exact ⟨_, za, zc, rfl, rfl, HB.vb KS, ES, ZZ.out, BS⟩
                · have hb := alloc_below0 q1 (.cells #[.string ⟨#[]⟩, .string ⟨#[]⟩, .bool false, .int .i64 0, .slice none 0 0, .bool false, .int .i64 0, .int .i64 0, .string ⟨#[]⟩] 29)
                  have KA := Lib.hid (HB.new (.cells #[.string ⟨#[]⟩, .string ⟨#[]⟩, .bool false, .int .i64 0, .slice none 0 0, .bool false, .int .i64 0, .int .i64 0, .string ⟨#[]⟩] 29) q1)
                  have NZ := Lib.hid (show w5.heap.size ≤ q1.heap.size from BB.out.size)
                  have NE := Lib.hid (show _ ≠ _ from (Nat.ne_of_gt KB.out.lt))
                  have NA := Lib.hid NZ.out
                  have BB := Lib.hid (BB.out.trans (hb.mono BB.out.size))
                  have YL := Lib.hid (YL.out.below hb)
                  have KB := Lib.hid (KB.out.below hb)
                  have SN := HSL.out _ BB.out
                  go_simp
                  refine hK.out _ _ (fun _ => SN) ?_
                  clear hK K SN hb NZ
                  generalize hG : World.alloc q1 _ = q11 at BB YL KB KA ⊢
                  clear hG
                  try simp only [Act.put, List.setIfInBounds_toArray, List.set_cons_zero, List.set_cons_succ]
                  refine AnyBut.one (i := 4) (o := ⟨some 56, _, _, _, _, none⟩) (by kernel_rfl) rfl (fun K hK => ?_)
                  go_simp
                  refine (ownI_any u ds q11 YL.out FL.out).mono ?_
                  rintro ev q12 ⟨y, dy, rfl, hy, hr, hs⟩
                  have RY := Lib.hid hr
                  have YY := Lib.hid (hy.mono BB.out.size)
                  have BB := Lib.hid (BB.out.trans (hs.mono BB.out.size))
                  have KB := Lib.hid (KB.out.below hs)
                  have KA := Lib.hid (KA.out.below hs)
                  have SN := HSL.out _ BB.out
                  clear hy hr hs YL
                  refine hK.out _ _ (fun _ => SN) ?_
                  clear hK K SN
                  try simp only [Act.put, List.setIfInBounds_toArray, List.set_cons_zero, List.set_cons_succ]
                  refine AnyBut.one (i := 5) (o := ⟨some 57, _, _, _, _, none⟩) (by kernel_rfl) rfl (fun K hK => ?_)
                  have PP := ChO.of_blk (base := w5.heap.size) (ss := [(⟨10, ⟨#[]⟩, ⟨#[]⟩, false, 0, ⟨#[]⟩, ⟨#[]⟩, 0, page, hl, hk4, 0, 0⟩ : Sc)]) NB.out KB.out (show 1 ≤ maxLen by decide) SC.out
                  refine step_appS lRec 22 Try.underlying22 lRec_known (by decide) (by decide) rfl (.tmp 54) (.tmp 56) rfl w5.heap.size rfl rfl PP.own YY.out.own.sv (by have := (few_read FW.out RY.out).1; simp; omega) BB.out.size ?_
                  intro v7 q13 ho hg
                  have QQ := Lib.hid (PP.append YY.out (Nat.le_refl _) ho hg)
                  have KA := Lib.hid (HB.grown KA.out hg (fun h => NE.out (Option.some.inj h)))
                  have BB := Lib.hid (BB.out.grown hg BB.out.size (fun k hk => (World.ownsRow.lt PP.own k hk).1))
                  have SN := HSL.out _ BB.out
                  clear PP ho hg KB YY NB NE
                  refine hK.out _ _ (fun _ => SN) ?_
                  clear hK K SN
                  try simp only [Act.put, List.setIfInBounds_toArray, List.set_cons_zero, List.set_cons_succ]
                  refine AnyBut.one (i := 6) (o := ⟨some 58, _, _, _, _, none⟩) (by kernel_rfl) rfl (fun K hK => ?_)
                  have RQ := (show readC (([(⟨10, ⟨#[]⟩, ⟨#[]⟩, false, 0, ⟨#[]⟩, ⟨#[]⟩, 0, page, hl, hk4, 0, 0⟩ : Sc)].map fun s => (⟨s, none, 0, none, 0, [], []⟩ : RcD)) ++ dy) = holdI10 page hl hk4 :: readC ds by (rw [readC_app, RY.out]; rfl))
                  have e1 := (show (([(⟨10, ⟨#[]⟩, ⟨#[]⟩, false, 0, ⟨#[]⟩, ⟨#[]⟩, 0, page, hl, hk4, 0, 0⟩ : Sc)].map fun s => (⟨s, none, 0, none, 0, [], []⟩ : RcD)) ++ dy).length ≤ 100 by (have := (few_read FW.out RY.out).1; simp; omega))
                  have e2 := (show ((([(⟨10, ⟨#[]⟩, ⟨#[]⟩, false, 0, ⟨#[]⟩, ⟨#[]⟩, 0, page, hl, hk4, 0, 0⟩ : Sc)].map fun s => (⟨s, none, 0, none, 0, [], []⟩ : RcD)) ++ dy).map fun d => d.ents.length).sum ≤ 1000 by (have := (few_read FW.out RY.out).2; simp; omega))
                  go_simp
                  refine (C.fold _ _ _ q13 QQ.out e1 e2).mono ?_
                  rintro ev q14 ⟨en2, rfl, hen, hsz, hs⟩
                  rw [RQ, CY.out.2] at hen hsz
                  rw [RQ, CY.out.1, CY.out.2, errV_zero rfl]
                  obtain ⟨za, zc, rfl, -, -⟩ := hen.lenN HM.out
                  unfold ivVal
                  have EE := Lib.hid (hen.mono BB.out.size)
                  have ZZ := Lib.hid hsz
                  have BB := Lib.hid (BB.out.trans (hs.mono BB.out.size))
                  have KA := Lib.hid (KA.out.below hs)
                  have SN := HSL.out _ BB.out
                  clear hen hsz hs RQ e1 e2 QQ
                  refine hK.out _ _ (fun _ => SN) ?_
                  clear hK K SN
                  have SX := Lib.hid (HSL.out _ BB.out)
                  refine AnyBut.take (i := 7) (oi := ⟨some 51, _, _, _, _, none⟩) (v := ?vAx47) rfl (by kernel_rfl) (by kernel_rfl) (by kernel_rfl) (by kernel_rfl) (fun _ _ _ h => h) (Or.inl ⟨by rfl, ?hyAx47⟩) SX.out ?restAx47
                  case hyAx47 => (intro w hSw; go_simp; try (with_reducible rfl))
                  simp only [Act.put, List.setIfInBounds_toArray, List.set_cons_zero, List.set_cons_succ]
                  refine AnyBut.take (i := 8) (oi := ⟨some 59, _, _, _, _, none⟩) (v := ?vAx48) rfl (by kernel_rfl) (by kernel_rfl) (by kernel_rfl) (by kernel_rfl) (fun _ _ _ h => h) (Or.inl ⟨by rfl, ?hyAx48⟩) SX.out ?restAx48
                  case hyAx48 => (intro w hSw; go_simp; try (with_reducible rfl))
                  simp only [Act.put, List.setIfInBounds_toArray, List.set_cons_zero, List.set_cons_succ]
                  refine AnyBut.take (i := 9) (oi := ⟨some 60, _, _, _, _, none⟩) (v := ?vAx49) rfl (by kernel_rfl) (by kernel_rfl) (by kernel_rfl) (by kernel_rfl) (fun _ _ _ h => h) (Or.inl ⟨by rfl, ?hyAx49⟩) SX.out ?restAx49
                  case hyAx49 => (intro w hSw; go_simp; try (with_reducible rfl))
                  simp only [Act.put, List.setIfInBounds_toArray, List.set_cons_zero, List.set_cons_succ]
                  clear SX
                  have KS := KA.out.sets (ivCells ⟨v.low, v.high, v.unb, v.right, v.ents, true, page, hl, hk4⟩ (.slice za m zc)) rfl
                  have ES := EE.out.kept (Kept.setCells (ivCells ⟨v.low, v.high, v.unb, v.right, v.ents, true, page, hl, hk4⟩ (.slice za m zc)) 0 _ (Kept.refl (fun x => x = _) _)) (EE.out.apart KA.out (show lEnt.ty ≠ 29 by decide))
                  have BS := below_setCells NA.out (ivCells ⟨v.low, v.high, v.unb, v.right, v.ents, true, page, hl, hk4⟩ (.slice za m zc)) 0 _ BB.out
                  have SN := HSL.out _ BS
                  refine AnyBut.one (i := 11) (o := ⟨none, _, _, _, _, none⟩) (by kernel_rfl) rfl (fun K hK => ?_)
                  rw [if_pos (by rfl)]
                  refine wp_store_mid 29 (.tmp 11) (.tmp 59) rfl _ 0 (ivCells ⟨v.low, v.high, v.unb, v.right, v.ents, true, page, hl, hk4⟩ (.slice za m zc)).toArray rfl rfl (KA.out.there 9 (Nat.le_refl _)) ivInfoS (iv_one _ _ _ _) ?_
                  refine hK.out _ _ (fun _ => SN) ?_
                  clear hK K
                  try simp only [Act.put]
                  refine AnyBut.one (i := 12) (o := ⟨some 12, _, _, _, _, none⟩) (by kernel_rfl) rfl (fun K hK => ?_)
                  go_simp
                  refine hK.out _ _ (fun h => absurd rfl h) ?_
                  clear hK K
                  try simp only [Act.put, List.setIfInBounds_toArray, List.set_cons_zero, List.set_cons_succ]
                  refine AnyBut.done (by kernel_rfl) ?_ _
                  go_wp2
                  go_meet
                  case rel => exact ⟨_, za, zc, rfl, rfl, HB.vb KS, ES, ZZ.out, BS⟩
              · go_simp
                refine (ownI_any u ds q0 YL.out FL.out).mono ?_
                rintro ev q15 ⟨y, dy, rfl, hy, hr, hs⟩
                have RY := Lib.hid hr
                have YY := Lib.hid (hy.mono BB.out.size)
                have BB := Lib.hid (BB.out.trans (hs.mono BB.out.size))
                have SN := HSL.out _ BB.out
                clear hy hr hs YL
                refine hK.out _ _ (fun _ => SN) ?_
                clear hK K SN
                try simp only [Act.put, List.setIfInBounds_toArray, List.set_cons_zero, List.set_cons_succ]
                refine AnyBut.two (i := 2) (j := 10) (o := ⟨some 54, _, _, _, _, none⟩) (u := ⟨some 11, _, _, _, _, none⟩) (by kernel_rfl) rfl rfl (fun K hK => ?_) (fun K hK => ?_)
                · have hb := alloc_below0 q15 (.cells #[.int .i64 10, .string ⟨#[]⟩, .string ⟨#[]⟩, .bool false, .int .i64 0, .slice none 0 0, .slice none 0 0, .string ⟨#[]⟩, .string ⟨#[]⟩, .int .i64 0, .int .i64 page, .int .i64 hl, .string hk4, .int .i64 0, .int .i64 0] 46)
                  have KB := Lib.hid (HB.new (.cells #[.int .i64 10, .string ⟨#[]⟩, .string ⟨#[]⟩, .bool false, .int .i64 0, .slice none 0 0, .slice none 0 0, .string ⟨#[]⟩, .string ⟨#[]⟩, .int .i64 0, .int .i64 page, .int .i64 hl, .string hk4, .int .i64 0, .int .i64 0] 46) q15)
                  have NZ := Lib.hid (show w5.heap.size ≤ q15.heap.size from BB.out.size)
                  have NB := Lib.hid NZ.out
                  have BB := Lib.hid (BB.out.trans (hb.mono BB.out.size))
                  have YY := Lib.hid (YY.out.below hb)
                  have SN := HSL.out _ BB.out
                  go_simp
                  refine hK.out _ _ (fun _ => SN) ?_
                  clear hK K SN hb NZ
                  generalize hG : World.alloc q15 _ = q16 at BB KB YY ⊢
                  clear hG
                  try simp only [Act.put, List.setIfInBounds_toArray, List.set_cons_zero, List.set_cons_succ]
                  refine AnyBut.two (i := 5) (j := 10) (o := ⟨some 57, _, _, _, _, none⟩) (u := ⟨some 11, _, _, _, _, none⟩) (by kernel_rfl) rfl rfl (fun K hK => ?_) (fun K hK => ?_)
                  · have PP := ChO.of_blk (base := w5.heap.size) (ss := [(⟨10, ⟨#[]⟩, ⟨#[]⟩, false, 0, ⟨#[]⟩, ⟨#[]⟩, 0, page, hl, hk4, 0, 0⟩ : Sc)]) NB.out KB.out (show 1 ≤ maxLen by decide) SC.out
                    refine step_appS lRec 22 Try.underlying22 lRec_known (by decide) (by decide) rfl (.tmp 54) (.tmp 56) rfl w5.heap.size rfl rfl PP.own YY.out.own.sv (by have := (few_read FW.out RY.out).1; simp; omega) BB.out.size ?_
                    intro v7 q17 ho hg
                    have QQ := Lib.hid (PP.append YY.out (Nat.le_refl _) ho hg)
                    have BB := Lib.hid (BB.out.grown hg BB.out.size (fun k hk => (World.ownsRow.lt PP.own k hk).1))
                    have SN := HSL.out _ BB.out
                    clear PP ho hg KB YY NB
                    refine hK.out _ _ (fun _ => SN) ?_
                    clear hK K SN
                    try simp only [Act.put, List.setIfInBounds_toArray, List.set_cons_zero, List.set_cons_succ]
                    refine AnyBut.two (i := 6) (j := 10) (o := ⟨some 58, _, _, _, _, none⟩) (u := ⟨some 11, _, _, _, _, none⟩) (by kernel_rfl) rfl rfl (fun K hK => ?_) (fun K hK => ?_)
                    · have RQ := (show readC (([(⟨10, ⟨#[]⟩, ⟨#[]⟩, false, 0, ⟨#[]⟩, ⟨#[]⟩, 0, page, hl, hk4, 0, 0⟩ : Sc)].map fun s => (⟨s, none, 0, none, 0, [], []⟩ : RcD)) ++ dy) = holdI10 page hl hk4 :: readC ds by (rw [readC_app, RY.out]; rfl))
                      have e1 := (show (([(⟨10, ⟨#[]⟩, ⟨#[]⟩, false, 0, ⟨#[]⟩, ⟨#[]⟩, 0, page, hl, hk4, 0, 0⟩ : Sc)].map fun s => (⟨s, none, 0, none, 0, [], []⟩ : RcD)) ++ dy).length ≤ 100 by (have := (few_read FW.out RY.out).1; simp; omega))
                      have e2 := (show ((([(⟨10, ⟨#[]⟩, ⟨#[]⟩, false, 0, ⟨#[]⟩, ⟨#[]⟩, 0, page, hl, hk4, 0, 0⟩ : Sc)].map fun s => (⟨s, none, 0, none, 0, [], []⟩ : RcD)) ++ dy).map fun d => d.ents.length).sum ≤ 1000 by (have := (few_read FW.out RY.out).2; simp; omega))
                      go_simp
                      refine (C.fold _ _ _ q17 QQ.out e1 e2).mono ?_
                      rintro ev q18 ⟨en2, rfl, hen, hsz, hs⟩
                      rw [RQ, CY.out.2] at hen hsz
                      rw [RQ, CY.out.1, CY.out.2, errV_zero rfl]
                      obtain ⟨za, zc, rfl, -, -⟩ := hen.lenN HM.out
                      unfold ivVal
                      have EE := Lib.hid (hen.mono BB.out.size)
                      have ZZ := Lib.hid hsz
                      have BB := Lib.hid (BB.out.trans (hs.mono BB.out.size))
                      have SN := HSL.out _ BB.out
                      clear hen hsz hs RQ e1 e2 QQ
                      refine hK.out _ _ (fun _ => SN) ?_
                      clear hK K SN
                      have SX := Lib.hid (HSL.out _ BB.out)
                      refine AnyBut.take (i := 7) (oi := ⟨some 51, _, _, _, _, none⟩) (v := ?vAx57) rfl (by kernel_rfl) (by kernel_rfl) (by kernel_rfl) (by kernel_rfl) (fun _ _ _ h => h) (Or.inl ⟨by rfl, ?hyAx57⟩) SX.out ?restAx57
                      case hyAx57 => (intro w hSw; go_simp; try (with_reducible rfl))
                      simp only [Act.put, List.setIfInBounds_toArray, List.set_cons_zero, List.set_cons_succ]
                      refine AnyBut.take (i := 8) (oi := ⟨some 59, _, _, _, _, none⟩) (v := ?vAx58) rfl (by kernel_rfl) (by kernel_rfl) (by kernel_rfl) (by kernel_rfl) (fun _ _ _ h => h) (Or.inl ⟨by rfl, ?hyAx58⟩) SX.out ?restAx58
                      case hyAx58 => (intro w hSw; go_simp; try (with_reducible rfl))
                      simp only [Act.put, List.setIfInBounds_toArray, List.set_cons_zero, List.set_cons_succ]
                      refine AnyBut.take (i := 9) (oi := ⟨some 60, _, _, _, _, none⟩) (v := ?vAx59) rfl (by kernel_rfl) (by kernel_rfl) (by kernel_rfl) (by kernel_rfl) (fun _ _ _ h => h) (Or.inl ⟨by rfl, ?hyAx59⟩) SX.out ?restAx59
                      case hyAx59 => (intro w hSw; go_simp; try (with_reducible rfl))
                      simp only [Act.put, List.setIfInBounds_toArray, List.set_cons_zero, List.set_cons_succ]
                      clear SX
                      refine AnyBut.one (i := 10) (o := ⟨some 11, _, _, _, _, none⟩) (by kernel_rfl) rfl (fun K hK => ?_)
                      have hb := alloc_below0 q18 (.cells #[.string ⟨#[]⟩, .string ⟨#[]⟩, .bool false, .int .i64 0, .slice none 0 0, .bool false, .int .i64 0, .int .i64 0, .string ⟨#[]⟩] 29)
                      have KA := Lib.hid (HB.new (.cells #[.string ⟨#[]⟩, .string ⟨#[]⟩, .bool false, .int .i64 0, .slice none 0 0, .bool false, .int .i64 0, .int .i64 0, .string ⟨#[]⟩] 29) q18)
                      have NZ := Lib.hid (show w5.heap.size ≤ q18.heap.size from BB.out.size)
                      have NA := Lib.hid NZ.out
                      have BB := Lib.hid (BB.out.trans (hb.mono BB.out.size))
                      have EE := Lib.hid (EE.out.below hb)
                      have SN := HSL.out _ BB.out
                      go_simp
                      refine hK.out _ _ (fun _ => SN) ?_
                      clear hK K SN hb NZ
                      generalize hG : World.alloc q18 _ = q19 at BB KA EE ⊢
                      clear hG
                      try simp only [Act.put, List.setIfInBounds_toArray, List.set_cons_zero, List.set_cons_succ]
                      have KS := KA.out.sets (ivCells ⟨v.low, v.high, v.unb, v.right, v.ents, true, page, hl, hk4⟩ (.slice za m zc)) rfl
                      have ES := EE.out.kept (Kept.setCells (ivCells ⟨v.low, v.high, v.unb, v.right, v.ents, true, page, hl, hk4⟩ (.slice za m zc)) 0 _ (Kept.refl (fun x => x = _) _)) (EE.out.apart KA.out (show lEnt.ty ≠ 29 by decide))
                      have BS := below_setCells NA.out (ivCells ⟨v.low, v.high, v.unb, v.right, v.ents, true, page, hl, hk4⟩ (.slice za m zc)) 0 _ BB.out
                      have SN := HSL.out _ BS
                      refine AnyBut.one (i := 11) (o := ⟨none, _, _, _, _, none⟩) (by kernel_rfl) rfl (fun K hK => ?_)
                      rw [if_pos (by rfl)]
                      refine wp_store_mid 29 (.tmp 11) (.tmp 59) rfl _ 0 (ivCells ⟨v.low, v.high, v.unb, v.right, v.ents, true, page, hl, hk4⟩ (.slice za m zc)).toArray rfl rfl (KA.out.there 9 (Nat.le_refl _)) ivInfoS (iv_one _ _ _ _) ?_
                      refine hK.out _ _ (fun _ => SN) ?_
                      clear hK K
                      try simp only [Act.put]
                      refine AnyBut.one (i := 12) (o := ⟨some 12, _, _, _, _, none⟩) (by kernel_rfl) rfl (fun K hK => ?_)
                      go_simp
                      refine hK.out _ _ (fun h => absurd rfl h) ?_
                      clear hK K
                      try simp only [Act.put, List.setIfInBounds_toArray, List.set_cons_zero, List.set_cons_succ]
                      refine AnyBut.done (by kernel_rfl) ?_ _
                      go_wp2
                      go_meet
                      case rel => exact ⟨_, za, zc, rfl, rfl, HB.vb KS, ES, ZZ.out, BS⟩
                    · have hb := alloc_below0 q17 (.cells #[.string ⟨#[]⟩, .string ⟨#[]⟩, .bool false, .int .i64 0, .slice none 0 0, .bool false, .int .i64 0, .int .i64 0, .string ⟨#[]⟩] 29)
                      have KA := Lib.hid (HB.new (.cells #[.string ⟨#[]⟩, .string ⟨#[]⟩, .bool false, .int .i64 0, .slice none 0 0, .bool false, .int .i64 0, .int .i64 0, .string ⟨#[]⟩] 29) q17)
                      have NZ := Lib.hid (show w5.heap.size ≤ q17.heap.size from BB.out.size)
                      have NA := Lib.hid NZ.out
                      have BB := Lib.hid (BB.out.trans (hb.mono BB.out.size))
                      have QQ := Lib.hid (QQ.out.below hb)
                      have SN := HSL.out _ BB.out
                      go_simp
                      refine hK.out _ _ (fun _ => SN) ?_
                      clear hK K SN hb NZ
                      generalize hG : World.alloc q17 _ = q20 at BB KA QQ ⊢
                      clear hG
                      try simp only [Act.put, List.setIfInBounds_toArray, List.set_cons_zero, List.set_cons_succ]
                      refine AnyBut.one (i := 6) (o := ⟨some 58, _, _, _, _, none⟩) (by kernel_rfl) rfl (fun K hK => ?_)
                      have RQ := (show readC (([(⟨10, ⟨#[]⟩, ⟨#[]⟩, false, 0, ⟨#[]⟩, ⟨#[]⟩, 0, page, hl, hk4, 0, 0⟩ : Sc)].map fun s => (⟨s, none, 0, none, 0, [], []⟩ : RcD)) ++ dy) = holdI10 page hl hk4 :: readC ds by (rw [readC_app, RY.out]; rfl))
                      have e1 := (show (([(⟨10, ⟨#[]⟩, ⟨#[]⟩, false, 0, ⟨#[]⟩, ⟨#[]⟩, 0, page, hl, hk4, 0, 0⟩ : Sc)].map fun s => (⟨s, none, 0, none, 0, [], []⟩ : RcD)) ++ dy).length ≤ 100 by (have := (few_read FW.out RY.out).1; simp; omega))
                      have e2 := (show ((([(⟨10, ⟨#[]⟩, ⟨#[]⟩, false, 0, ⟨#[]⟩, ⟨#[]⟩, 0, page, hl, hk4, 0, 0⟩ : Sc)].map fun s => (⟨s, none, 0, none, 0, [], []⟩ : RcD)) ++ dy).map fun d => d.ents.length).sum ≤ 1000 by (have := (few_read FW.out RY.out).2; simp; omega))
                      go_simp
                      refine (C.fold _ _ _ q20 QQ.out e1 e2).mono ?_
                      rintro ev q21 ⟨en2, rfl, hen, hsz, hs⟩
                      rw [RQ, CY.out.2] at hen hsz
                      rw [RQ, CY.out.1, CY.out.2, errV_zero rfl]
                      obtain ⟨za, zc, rfl, -, -⟩ := hen.lenN HM.out
                      unfold ivVal
                      have EE := Lib.hid (hen.mono BB.out.size)
                      have ZZ := Lib.hid hsz
                      have BB := Lib.hid (BB.out.trans (hs.mono BB.out.size))
                      have KA := Lib.hid (KA.out.below hs)
                      have SN := HSL.out _ BB.out
                      clear hen hsz hs RQ e1 e2 QQ
                      refine hK.out _ _ (fun _ => SN) ?_
                      clear hK K SN
                      have SX := Lib.hid (HSL.out _ BB.out)
                      refine AnyBut.take (i := 7) (oi := ⟨some 51, _, _, _, _, none⟩) (v := ?vAx67) rfl (by kernel_rfl) (by kernel_rfl) (by kernel_rfl) (by kernel_rfl) (fun _ _ _ h => h) (Or.inl ⟨by rfl, ?hyAx67⟩) SX.out ?restAx67
                      case hyAx67 => (intro w hSw; go_simp; try (with_reducible rfl))
                      simp only [Act.put, List.setIfInBounds_toArray, List.set_cons_zero, List.set_cons_succ]
                      refine AnyBut.take (i := 8) (oi := ⟨some 59, _, _, _, _, none⟩) (v := ?vAx68) rfl (by kernel_rfl) (by kernel_rfl) (by kernel_rfl) (by kernel_rfl) (fun _ _ _ h => h) (Or.inl ⟨by rfl, ?hyAx68⟩) SX.out ?restAx68
                      case hyAx68 => (intro w hSw; go_simp; try (with_reducible rfl))
                      simp only [Act.put, List.setIfInBounds_toArray, List.set_cons_zero, List.set_cons_succ]
                      refine AnyBut.take (i := 9) (oi := ⟨some 60, _, _, _, _, none⟩) (v := ?vAx69) rfl (by kernel_rfl) (by kernel_rfl) (by kernel_rfl) (by kernel_rfl) (fun _ _ _ h => h) (Or.inl ⟨by rfl, ?hyAx69⟩) SX.out ?restAx69
                      case hyAx69 => (intro w hSw; go_simp; try (with_reducible rfl))
                      simp only [Act.put, List.setIfInBounds_toArray, List.set_cons_zero, List.set_cons_succ]
                      clear SX
                      have KS := KA.out.sets (ivCells ⟨v.low, v.high, v.unb, v.right, v.ents, true, page, hl, hk4⟩ (.slice za m zc)) rfl
                      have ES := EE.out.kept (Kept.setCells (ivCells ⟨v.low, v.high, v.unb, v.right, v.ents, true, page, hl, hk4⟩ (.slice za m zc)) 0 _ (Kept.refl (fun x => x = _) _)) (EE.out.apart KA.out (show lEnt.ty ≠ 29 by decide))
                      have BS := below_setCells NA.out (ivCells ⟨v.low, v.high, v.unb, v.right, v.ents, true, page, hl, hk4⟩ (.slice za m zc)) 0 _ BB.out
                      have SN := HSL.out _ BS
                      refine AnyBut.one (i := 11) (o := ⟨none, _, _, _, _, none⟩) (by kernel_rfl) rfl (fun K hK => ?_)
                      rw [if_pos (by rfl)]
                      refine wp_store_mid 29 (.tmp 11) (.tmp 59) rfl _ 0 (ivCells ⟨v.low, v.high, v.unb, v.right, v.ents, true, page, hl, hk4⟩ (.slice za m zc)).toArray rfl rfl (KA.out.there 9 (Nat.le_refl _)) ivInfoS (iv_one _ _ _ _) ?_
                      refine hK.out _ _ (fun _ => SN) ?_
                      clear hK K
                      try simp only [Act.put]
                      refine AnyBut.one (i := 12) (o := ⟨some 12, _, _, _, _, none⟩) (by kernel_rfl) rfl (fun K hK => ?_)
                      go_simp
                      refine hK.out _ _ (fun h => absurd rfl h) ?_
                      clear hK K
                      try simp only [Act.put, List.setIfInBounds_toArray, List.set_cons_zero, List.set_cons_succ]
                      refine AnyBut.done (by kernel_rfl) ?_ _
                      go_wp2
                      go_meet
                      case rel => exact ⟨_, za, zc, rfl, rfl, HB.vb KS, ES, ZZ.out, BS⟩
                  · have hb := alloc_below0 q16 (.cells #[.string ⟨#[]⟩, .string ⟨#[]⟩, .bool false, .int .i64 0, .slice none 0 0, .bool false, .int .i64 0, .int .i64 0, .string ⟨#[]⟩] 29)
                    have KA := Lib.hid (HB.new (.cells #[.string ⟨#[]⟩, .string ⟨#[]⟩, .bool false, .int .i64 0, .slice none 0 0, .bool false, .int .i64 0, .int .i64 0, .string ⟨#[]⟩] 29) q16)
                    have NZ := Lib.hid (show w5.heap.size ≤ q16.heap.size from BB.out.size)
                    have NE := Lib.hid (show _ ≠ _ from (Nat.ne_of_gt KB.out.lt))
                    have NA := Lib.hid NZ.out
                    have BB := Lib.hid (BB.out.trans (hb.mono BB.out.size))
                    have KB := Lib.hid (KB.out.below hb)
                    have YY := Lib.hid (YY.out.below hb)
                    have SN := HSL.out _ BB.out
                    go_simp
                    refine hK.out _ _ (fun _ => SN) ?_
                    clear hK K SN hb NZ
                    generalize hG : World.alloc q16 _ = q22 at BB KB YY KA ⊢
                    clear hG
                    try simp only [Act.put, List.setIfInBounds_toArray, List.set_cons_zero, List.set_cons_succ]
                    refine AnyBut.one (i := 5) (o := ⟨some 57, _, _, _, _, none⟩) (by kernel_rfl) rfl (fun K hK => ?_)
                    have PP := ChO.of_blk (base := w5.heap.size) (ss := [(⟨10, ⟨#[]⟩, ⟨#[]⟩, false, 0, ⟨#[]⟩, ⟨#[]⟩, 0, page, hl, hk4, 0, 0⟩ : Sc)]) NB.out KB.out (show 1 ≤ maxLen by decide) SC.out
                    refine step_appS lRec 22 Try.underlying22 lRec_known (by decide) (by decide) rfl (.tmp 54) (.tmp 56) rfl w5.heap.size rfl rfl PP.own YY.out.own.sv (by have := (few_read FW.out RY.out).1; simp; omega) BB.out.size ?_
                    intro v7 q23 ho hg
                    have QQ := Lib.hid (PP.append YY.out (Nat.le_refl _) ho hg)
                    have KA := Lib.hid (HB.grown KA.out hg (fun h => NE.out (Option.some.inj h)))
                    have BB := Lib.hid (BB.out.grown hg BB.out.size (fun k hk => (World.ownsRow.lt PP.own k hk).1))
                    have SN := HSL.out _ BB.out
                    clear PP ho hg KB YY NB NE
                    refine hK.out _ _ (fun _ => SN) ?_
                    clear hK K SN
                    try simp only [Act.put, List.setIfInBounds_toArray, List.set_cons_zero, List.set_cons_succ]
                    refine AnyBut.one (i := 6) (o := ⟨some 58, _, _, _, _, none⟩) (by kernel_rfl) rfl (fun K hK => ?_)
                    have RQ := (show readC (([(⟨10, ⟨#[]⟩, ⟨#[]⟩, false, 0, ⟨#[]⟩, ⟨#[]⟩, 0, page, hl, hk4, 0, 0⟩ : Sc)].map fun s => (⟨s, none, 0, none, 0, [], []⟩ : RcD)) ++ dy) = holdI10 page hl hk4 :: readC ds by (rw [readC_app, RY.out]; rfl))
                    have e1 := (show (([(⟨10, ⟨#[]⟩, ⟨#[]⟩, false, 0, ⟨#[]⟩, ⟨#[]⟩, 0, page, hl, hk4, 0, 0⟩ : Sc)].map fun s => (⟨s, none, 0, none, 0, [], []⟩ : RcD)) ++ dy).length ≤ 100 by (have := (few_read FW.out RY.out).1; simp; omega))
                    have e2 := (show ((([(⟨10, ⟨#[]⟩, ⟨#[]⟩, false, 0, ⟨#[]⟩, ⟨#[]⟩, 0, page, hl, hk4, 0, 0⟩ : Sc)].map fun s => (⟨s, none, 0, none, 0, [], []⟩ : RcD)) ++ dy).map fun d => d.ents.length).sum ≤ 1000 by (have := (few_read FW.out RY.out).2; simp; omega))
                    go_simp
                    refine (C.fold _ _ _ q23 QQ.out e1 e2).mono ?_
                    rintro ev q24 ⟨en2, rfl, hen, hsz, hs⟩
                    rw [RQ, CY.out.2] at hen hsz
                    rw [RQ, CY.out.1, CY.out.2, errV_zero rfl]
                    obtain ⟨za, zc, rfl, -, -⟩ := hen.lenN HM.out
                    unfold ivVal
                    have EE := Lib.hid (hen.mono BB.out.size)
                    have ZZ := Lib.hid hsz
                    have BB := Lib.hid (BB.out.trans (hs.mono BB.out.size))
                    have KA := Lib.hid (KA.out.below hs)
                    have SN := HSL.out _ BB.out
                    clear hen hsz hs RQ e1 e2 QQ
                    refine hK.out _ _ (fun _ => SN) ?_
                    clear hK K SN
                    have SX := Lib.hid (HSL.out _ BB.out)
                    refine AnyBut.take (i := 7) (oi := ⟨some 51, _, _, _, _, none⟩) (v := ?vAx77) rfl (by kernel_rfl) (by kernel_rfl) (by kernel_rfl) (by kernel_rfl) (fun _ _ _ h => h) (Or.inl ⟨by rfl, ?hyAx77⟩) SX.out ?restAx77
                    case hyAx77 => (intro w hSw; go_simp; try (with_reducible rfl))
                    simp only [Act.put, List.setIfInBounds_toArray, List.set_cons_zero, List.set_cons_succ]
                    refine AnyBut.take (i := 8) (oi := ⟨some 59, _, _, _, _, none⟩) (v := ?vAx78) rfl (by kernel_rfl) (by kernel_rfl) (by kernel_rfl) (by kernel_rfl) (fun _ _ _ h => h) (Or.inl ⟨by rfl, ?hyAx78⟩) SX.out ?restAx78
                    case hyAx78 => (intro w hSw; go_simp; try (with_reducible rfl))
                    simp only [Act.put, List.setIfInBounds_toArray, List.set_cons_zero, List.set_cons_succ]
                    refine AnyBut.take (i := 9) (oi := ⟨some 60, _, _, _, _, none⟩) (v := ?vAx79) rfl (by kernel_rfl) (by kernel_rfl) (by kernel_rfl) (by kernel_rfl) (fun _ _ _ h => h) (Or.inl ⟨by rfl, ?hyAx79⟩) SX.out ?restAx79
                    case hyAx79 => (intro w hSw; go_simp; try (with_reducible rfl))
                    simp only [Act.put, List.setIfInBounds_toArray, List.set_cons_zero, List.set_cons_succ]
                    clear SX
                    have KS := KA.out.sets (ivCells ⟨v.low, v.high, v.unb, v.right, v.ents, true, page, hl, hk4⟩ (.slice za m zc)) rfl
                    have ES := EE.out.kept (Kept.setCells (ivCells ⟨v.low, v.high, v.unb, v.right, v.ents, true, page, hl, hk4⟩ (.slice za m zc)) 0 _ (Kept.refl (fun x => x = _) _)) (EE.out.apart KA.out (show lEnt.ty ≠ 29 by decide))
                    have BS := below_setCells NA.out (ivCells ⟨v.low, v.high, v.unb, v.right, v.ents, true, page, hl, hk4⟩ (.slice za m zc)) 0 _ BB.out
                    have SN := HSL.out _ BS
                    refine AnyBut.one (i := 11) (o := ⟨none, _, _, _, _, none⟩) (by kernel_rfl) rfl (fun K hK => ?_)
                    rw [if_pos (by rfl)]
                    refine wp_store_mid 29 (.tmp 11) (.tmp 59) rfl _ 0 (ivCells ⟨v.low, v.high, v.unb, v.right, v.ents, true, page, hl, hk4⟩ (.slice za m zc)).toArray rfl rfl (KA.out.there 9 (Nat.le_refl _)) ivInfoS (iv_one _ _ _ _) ?_
                    refine hK.out _ _ (fun _ => SN) ?_
                    clear hK K
                    try simp only [Act.put]
                    refine AnyBut.one (i := 12) (o := ⟨some 12, _, _, _, _, none⟩) (by kernel_rfl) rfl (fun K hK => ?_)
                    go_simp
                    refine hK.out _ _ (fun h => absurd rfl h) ?_
                    clear hK K
                    try simp only [Act.put, List.setIfInBounds_toArray, List.set_cons_zero, List.set_cons_succ]
                    refine AnyBut.done (by kernel_rfl) ?_ _
                    go_wp2
                    go_meet
                    case rel => exact ⟨_, za, zc, rfl, rfl, HB.vb KS, ES, ZZ.out, BS⟩
                · have hb := alloc_below0 q15 (.cells #[.string ⟨#[]⟩, .string ⟨#[]⟩, .bool false, .int .i64 0, .slice none 0 0, .bool false, .int .i64 0, .int .i64 0, .string ⟨#[]⟩] 29)
                  have KA := Lib.hid (HB.new (.cells #[.string ⟨#[]⟩, .string ⟨#[]⟩, .bool false, .int .i64 0, .slice none 0 0, .bool false, .int .i64 0, .int .i64 0, .string ⟨#[]⟩] 29) q15)
                  have NZ := Lib.hid (show w5.heap.size ≤ q15.heap.size from BB.out.size)
                  have NA := Lib.hid NZ.out
                  have BB := Lib.hid (BB.out.trans (hb.mono BB.out.size))
                  have YY := Lib.hid (YY.out.below hb)
                  have SN := HSL.out _ BB.out
                  go_simp
                  refine hK.out _ _ (fun _ => SN) ?_
                  clear hK K SN hb NZ
                  generalize hG : World.alloc q15 _ = q25 at BB YY KA ⊢
                  clear hG
                  try simp only [Act.put, List.setIfInBounds_toArray, List.set_cons_zero, List.set_cons_succ]
                  refine AnyBut.one (i := 2) (o := ⟨some 54, _, _, _, _, none⟩) (by kernel_rfl) rfl (fun K hK => ?_)
                  have hb := alloc_below0 q25 (.cells #[.int .i64 10, .string ⟨#[]⟩, .string ⟨#[]⟩, .bool false, .int .i64 0, .slice none 0 0, .slice none 0 0, .string ⟨#[]⟩, .string ⟨#[]⟩, .int .i64 0, .int .i64 page, .int .i64 hl, .string hk4, .int .i64 0, .int .i64 0] 46)
                  have KB := Lib.hid (HB.new (.cells #[.int .i64 10, .string ⟨#[]⟩, .string ⟨#[]⟩, .bool false, .int .i64 0, .slice none 0 0, .slice none 0 0, .string ⟨#[]⟩, .string ⟨#[]⟩, .int .i64 0, .int .i64 page, .int .i64 hl, .string hk4, .int .i64 0, .int .i64 0] 46) q25)
                  have NZ := Lib.hid (show w5.heap.size ≤ q25.heap.size from BB.out.size)
                  have NB := Lib.hid NZ.out
                  have NE := Lib.hid (show _ ≠ _ from (Nat.ne_of_lt KA.out.lt))
                  have BB := Lib.hid (BB.out.trans (hb.mono BB.out.size))
                  have YY := Lib.hid (YY.out.below hb)
                  have KA := Lib.hid (KA.out.below hb)
                  have SN := HSL.out _ BB.out
                  go_simp
                  refine hK.out _ _ (fun _ => SN) ?_
                  clear hK K SN hb NZ
                  generalize hG : World.alloc q25 _ = q26 at BB KB YY KA ⊢
                  clear hG
                  try simp only [Act.put, List.setIfInBounds_toArray, List.set_cons_zero, List.set_cons_succ]
                  refine AnyBut.one (i := 5) (o := ⟨some 57, _, _, _, _, none⟩) (by kernel_rfl) rfl (fun K hK => ?_)
                  have PP := ChO.of_blk (base := w5.heap.size) (ss := [(⟨10, ⟨#[]⟩, ⟨#[]⟩, false, 0, ⟨#[]⟩, ⟨#[]⟩, 0, page, hl, hk4, 0, 0⟩ : Sc)]) NB.out KB.out (show 1 ≤ maxLen by decide) SC.out
                  refine step_appS lRec 22 Try.underlying22 lRec_known (by decide) (by decide) rfl (.tmp 54) (.tmp 56) rfl w5.heap.size rfl rfl PP.own YY.out.own.sv (by have := (few_read FW.out RY.out).1; simp; omega) BB.out.size ?_
                  intro v7 q27 ho hg
                  have QQ := Lib.hid (PP.append YY.out (Nat.le_refl _) ho hg)
                  have KA := Lib.hid (HB.grown KA.out hg (fun h => NE.out (Option.some.inj h)))
                  have BB := Lib.hid (BB.out.grown hg BB.out.size (fun k hk => (World.ownsRow.lt PP.own k hk).1))
                  have SN := HSL.out _ BB.out
                  clear PP ho hg KB YY NB NE
                  refine hK.out _ _ (fun _ => SN) ?_
                  clear hK K SN
                  try simp only [Act.put, List.setIfInBounds_toArray, List.set_cons_zero, List.set_cons_succ]
                  refine AnyBut.one (i := 6) (o := ⟨some 58, _, _, _, _, none⟩) (by kernel_rfl) rfl (fun K hK => ?_)
                  have RQ := (show readC (([(⟨10, ⟨#[]⟩, ⟨#[]⟩, false, 0, ⟨#[]⟩, ⟨#[]⟩, 0, page, hl, hk4, 0, 0⟩ : Sc)].map fun s => (⟨s, none, 0, none, 0, [], []⟩ : RcD)) ++ dy) = holdI10 page hl hk4 :: readC ds by (rw [readC_app, RY.out]; rfl))
                  have e1 := (show (([(⟨10, ⟨#[]⟩, ⟨#[]⟩, false, 0, ⟨#[]⟩, ⟨#[]⟩, 0, page, hl, hk4, 0, 0⟩ : Sc)].map fun s => (⟨s, none, 0, none, 0, [], []⟩ : RcD)) ++ dy).length ≤ 100 by (have := (few_read FW.out RY.out).1; simp; omega))
                  have e2 := (show ((([(⟨10, ⟨#[]⟩, ⟨#[]⟩, false, 0, ⟨#[]⟩, ⟨#[]⟩, 0, page, hl, hk4, 0, 0⟩ : Sc)].map fun s => (⟨s, none, 0, none, 0, [], []⟩ : RcD)) ++ dy).map fun d => d.ents.length).sum ≤ 1000 by (have := (few_read FW.out RY.out).2; simp; omega))
                  go_simp
                  refine (C.fold _ _ _ q27 QQ.out e1 e2).mono ?_
                  rintro ev q28 ⟨en2, rfl, hen, hsz, hs⟩
                  rw [RQ, CY.out.2] at hen hsz
                  rw [RQ, CY.out.1, CY.out.2, errV_zero rfl]
                  obtain ⟨za, zc, rfl, -, -⟩ := hen.lenN HM.out
                  unfold ivVal
                  have EE := Lib.hid (hen.mono BB.out.size)
                  have ZZ := Lib.hid hsz
                  have BB := Lib.hid (BB.out.trans (hs.mono BB.out.size))
                  have KA := Lib.hid (KA.out.below hs)
                  have SN := HSL.out _ BB.out
                  clear hen hsz hs RQ e1 e2 QQ
                  refine hK.out _ _ (fun _ => SN) ?_
                  clear hK K SN
                  have SX := Lib.hid (HSL.out _ BB.out)
                  refine AnyBut.take (i := 7) (oi := ⟨some 51, _, _, _, _, none⟩) (v := ?vAx87) rfl (by kernel_rfl) (by kernel_rfl) (by kernel_rfl) (by kernel_rfl) (fun _ _ _ h => h) (Or.inl ⟨by rfl, ?hyAx87⟩) SX.out ?restAx87
                  case hyAx87 => (intro w hSw; go_simp; try (with_reducible rfl))
                  simp only [Act.put, List.setIfInBounds_toArray, List.set_cons_zero, List.set_cons_succ]
                  refine AnyBut.take (i := 8) (oi := ⟨some 59, _, _, _, _, none⟩) (v := ?vAx88) rfl (by kernel_rfl) (by kernel_rfl) (by kernel_rfl) (by kernel_rfl) (fun _ _ _ h => h) (Or.inl ⟨by rfl, ?hyAx88⟩) SX.out ?restAx88
                  case hyAx88 => (intro w hSw; go_simp; try (with_reducible rfl))
                  simp only [Act.put, List.setIfInBounds_toArray, List.set_cons_zero, List.set_cons_succ]
                  refine AnyBut.take (i := 9) (oi := ⟨some 60, _, _, _, _, none⟩) (v := ?vAx89) rfl (by kernel_rfl) (by kernel_rfl) (by kernel_rfl) (by kernel_rfl) (fun _ _ _ h => h) (Or.inl ⟨by rfl, ?hyAx89⟩) SX.out ?restAx89
                  case hyAx89 => (intro w hSw; go_simp; try (with_reducible rfl))
                  simp only [Act.put, List.setIfInBounds_toArray, List.set_cons_zero, List.set_cons_succ]
                  clear SX
                  have KS := KA.out.sets (ivCells ⟨v.low, v.high, v.unb, v.right, v.ents, true, page, hl, hk4⟩ (.slice za m zc)) rfl
                  have ES := EE.out.kept (Kept.setCells (ivCells ⟨v.low, v.high, v.unb, v.right, v.ents, true, page, hl, hk4⟩ (.slice za m zc)) 0 _ (Kept.refl (fun x => x = _) _)) (EE.out.apart KA.out (show lEnt.ty ≠ 29 by decide))
                  have BS := below_setCells NA.out (ivCells ⟨v.low, v.high, v.unb, v.right, v.ents, true, page, hl, hk4⟩ (.slice za m zc)) 0 _ BB.out
                  have SN := HSL.out _ BS
                  refine AnyBut.one (i := 11) (o := ⟨none, _, _, _, _, none⟩) (by kernel_rfl) rfl (fun K hK => ?_)
                  rw [if_pos (by rfl)]
                  refine wp_store_mid 29 (.tmp 11) (.tmp 59) rfl _ 0 (ivCells ⟨v.low, v.high, v.unb, v.right, v.ents, true, page, hl, hk4⟩ (.slice za m zc)).toArray rfl rfl (KA.out.there 9 (Nat.le_refl _)) ivInfoS (iv_one _ _ _ _) ?_
                  refine hK.out _ _ (fun _ => SN) ?_
                  clear hK K
                  try simp only [Act.put]
                  refine AnyBut.one (i := 12) (o := ⟨some 12, _, _, _, _, none⟩) (by kernel_rfl) rfl (fun K hK => ?_)
                  go_simp
                  refine hK.out _ _ (fun h => absurd rfl h) ?_
                  clear hK K
                  try simp only [Act.put, List.setIfInBounds_toArray, List.set_cons_zero, List.set_cons_succ]
                  refine AnyBut.done (by kernel_rfl) ?_ _
                  go_wp2
                  go_meet
                  case rel => exact ⟨_, za, zc, rfl, rfl, HB.vb KS, ES, ZZ.out, BS⟩
              · have hb := alloc_below0 q0 (.cells #[.string ⟨#[]⟩, .string ⟨#[]⟩, .bool false, .int .i64 0, .slice none 0 0, .bool false, .int .i64 0, .int .i64 0, .string ⟨#[]⟩] 29)
                have KA := Lib.hid (HB.new (.cells #[.string ⟨#[]⟩, .string ⟨#[]⟩, .bool false, .int .i64 0, .slice none 0 0, .bool false, .int .i64 0, .int .i64 0, .string ⟨#[]⟩] 29) q0)
                have NZ := Lib.hid (show w5.heap.size ≤ q0.heap.size from BB.out.size)
                have NA := Lib.hid NZ.out
                have BB := Lib.hid (BB.out.trans (hb.mono BB.out.size))
                have YL := Lib.hid (YL.out.below hb)
                have SN := HSL.out _ BB.out
                go_simp
                refine hK.out _ _ (fun _ => SN) ?_
                clear hK K SN hb NZ
                generalize hG : World.alloc q0 _ = q29 at BB YL KA ⊢
                clear hG
                try simp only [Act.put, List.setIfInBounds_toArray, List.set_cons_zero, List.set_cons_succ]
                refine AnyBut.two (i := 2) (j := 4) (o := ⟨some 54, _, _, _, _, none⟩) (u := ⟨some 56, _, _, _, _, none⟩) (by kernel_rfl) rfl rfl (fun K hK => ?_) (fun K hK => ?_)
                · have hb := alloc_below0 q29 (.cells #[.int .i64 10, .string ⟨#[]⟩, .string ⟨#[]⟩, .bool false, .int .i64 0, .slice none 0 0, .slice none 0 0, .string ⟨#[]⟩, .string ⟨#[]⟩, .int .i64 0, .int .i64 page, .int .i64 hl, .string hk4, .int .i64 0, .int .i64 0] 46)
                  have KB := Lib.hid (HB.new (.cells #[.int .i64 10, .string ⟨#[]⟩, .string ⟨#[]⟩, .bool false, .int .i64 0, .slice none 0 0, .slice none 0 0, .string ⟨#[]⟩, .string ⟨#[]⟩, .int .i64 0, .int .i64 page, .int .i64 hl, .string hk4, .int .i64 0, .int .i64 0] 46) q29)
                  have NZ := Lib.hid (show w5.heap.size ≤ q29.heap.size from BB.out.size)
                  have NB := Lib.hid NZ.out
                  have NE := Lib.hid (show _ ≠ _ from (Nat.ne_of_lt KA.out.lt))
                  have BB := Lib.hid (BB.out.trans (hb.mono BB.out.size))
                  have YL := Lib.hid (YL.out.below hb)
                  have KA := Lib.hid (KA.out.below hb)
                  have SN := HSL.out _ BB.out
                  go_simp
                  refine hK.out _ _ (fun _ => SN) ?_
                  clear hK K SN hb NZ
                  generalize hG : World.alloc q29 _ = q30 at BB YL KB KA ⊢
                  clear hG
                  try simp only [Act.put, List.setIfInBounds_toArray, List.set_cons_zero, List.set_cons_succ]
                  refine AnyBut.one (i := 4) (o := ⟨some 56, _, _, _, _, none⟩) (by kernel_rfl) rfl (fun K hK => ?_)
                  go_simp
                  refine (ownI_any u ds q30 YL.out FL.out).mono ?_
                  rintro ev q31 ⟨y, dy, rfl, hy, hr, hs⟩
                  have RY := Lib.hid hr
                  have YY := Lib.hid (hy.mono BB.out.size)
                  have BB := Lib.hid (BB.out.trans (hs.mono BB.out.size))
                  have KB := Lib.hid (KB.out.below hs)
                  have KA := Lib.hid (KA.out.below hs)
                  have SN := HSL.out _ BB.out
                  clear hy hr hs YL
                  refine hK.out _ _ (fun _ => SN) ?_
                  clear hK K SN
                  try simp only [Act.put, List.setIfInBounds_toArray, List.set_cons_zero, List.set_cons_succ]
                  refine AnyBut.one (i := 5) (o := ⟨some 57, _, _, _, _, none⟩) (by kernel_rfl) rfl (fun K hK => ?_)
                  have PP := ChO.of_blk (base := w5.heap.size) (ss := [(⟨10, ⟨#[]⟩, ⟨#[]⟩, false, 0, ⟨#[]⟩, ⟨#[]⟩, 0, page, hl, hk4, 0, 0⟩ : Sc)]) NB.out KB.out (show 1 ≤ maxLen by decide) SC.out
                  refine step_appS lRec 22 Try.underlying22 lRec_known (by decide) (by decide) rfl (.tmp 54) (.tmp 56) rfl w5.heap.size rfl rfl PP.own YY.out.own.sv (by have := (few_read FW.out RY.out).1; simp; omega) BB.out.size ?_
                  intro v7 q32 ho hg
                  have QQ := Lib.hid (PP.append YY.out (Nat.le_refl _) ho hg)
                  have KA := Lib.hid (HB.grown KA.out hg (fun h => NE.out (Option.some.inj h)))
                  have BB := Lib.hid (BB.out.grown hg BB.out.size (fun k hk => (World.ownsRow.lt PP.own k hk).1))
                  have SN := HSL.out _ BB.out
                  clear PP ho hg KB YY NB NE
                  refine hK.out _ _ (fun _ => SN) ?_
                  clear hK K SN
                  try simp only [Act.put, List.setIfInBounds_toArray, List.set_cons_zero, List.set_cons_succ]
                  refine AnyBut.one (i := 6) (o := ⟨some 58, _, _, _, _, none⟩) (by kernel_rfl) rfl (fun K hK => ?_)
                  have RQ := (show readC (([(⟨10, ⟨#[]⟩, ⟨#[]⟩, false, 0, ⟨#[]⟩, ⟨#[]⟩, 0, page, hl, hk4, 0, 0⟩ : Sc)].map fun s => (⟨s, none, 0, none, 0, [], []⟩ : RcD)) ++ dy) = holdI10 page hl hk4 :: readC ds by (rw [readC_app, RY.out]; rfl))
                  have e1 := (show (([(⟨10, ⟨#[]⟩, ⟨#[]⟩, false, 0, ⟨#[]⟩, ⟨#[]⟩, 0, page, hl, hk4, 0, 0⟩ : Sc)].map fun s => (⟨s, none, 0, none, 0, [], []⟩ : RcD)) ++ dy).length ≤ 100 by (have := (few_read FW.out RY.out).1; simp; omega))
                  have e2 := (show ((([(⟨10, ⟨#[]⟩, ⟨#[]⟩, false, 0, ⟨#[]⟩, ⟨#[]⟩, 0, page, hl, hk4, 0, 0⟩ : Sc)].map fun s => (⟨s, none, 0, none, 0, [], []⟩ : RcD)) ++ dy).map fun d => d.ents.length).sum ≤ 1000 by (have := (few_read FW.out RY.out).2; simp; omega))
                  go_simp
                  refine (C.fold _ _ _ q32 QQ.out e1 e2).mono ?_
                  rintro ev q33 ⟨en2, rfl, hen, hsz, hs⟩
                  rw [RQ, CY.out.2] at hen hsz
                  rw [RQ, CY.out.1, CY.out.2, errV_zero rfl]
                  obtain ⟨za, zc, rfl, -, -⟩ := hen.lenN HM.out
                  unfold ivVal
                  have EE := Lib.hid (hen.mono BB.out.size)
                  have ZZ := Lib.hid hsz
                  have BB := Lib.hid (BB.out.trans (hs.mono BB.out.size))
                  have KA := Lib.hid (KA.out.below hs)
                  have SN := HSL.out _ BB.out
                  clear hen hsz hs RQ e1 e2 QQ
                  refine hK.out _ _ (fun _ => SN) ?_
                  clear hK K SN
                  have SX := Lib.hid (HSL.out _ BB.out)
                  refine AnyBut.take (i := 7) (oi := ⟨some 51, _, _, _, _, none⟩) (v := ?vAx97) rfl (by kernel_rfl) (by kernel_rfl) (by kernel_rfl) (by kernel_rfl) (fun _ _ _ h => h) (Or.inl ⟨by rfl, ?hyAx97⟩) SX.out ?restAx97
                  case hyAx97 => (intro w hSw; go_simp; try (with_reducible rfl))
                  simp only [Act.put, List.setIfInBounds_toArray, List.set_cons_zero, List.set_cons_succ]
                  refine AnyBut.take (i := 8) (oi := ⟨some 59, _, _, _, _, none⟩) (v := ?vAx98) rfl (by kernel_rfl) (by kernel_rfl) (by kernel_rfl) (by kernel_rfl) (fun _ _ _ h => h) (Or.inl ⟨by rfl, ?hyAx98⟩) SX.out ?restAx98
                  case hyAx98 => (intro w hSw; go_simp; try (with_reducible rfl))
                  simp only [Act.put, List.setIfInBounds_toArray, List.set_cons_zero, List.set_cons_succ]
                  refine AnyBut.take (i := 9) (oi := ⟨some 60, _, _, _, _, none⟩) (v := ?vAx99) rfl (by kernel_rfl) (by kernel_rfl) (by kernel_rfl) (by kernel_rfl) (fun _ _ _ h => h) (Or.inl ⟨by rfl, ?hyAx99⟩) SX.out ?restAx99
                  case hyAx99 => (intro w hSw; go_simp; try (with_reducible rfl))
                  simp only [Act.put, List.setIfInBounds_toArray, List.set_cons_zero, List.set_cons_succ]
                  clear SX
                  have KS := KA.out.sets (ivCells ⟨v.low, v.high, v.unb, v.right, v.ents, true, page, hl, hk4⟩ (.slice za m zc)) rfl
                  have ES := EE.out.kept (Kept.setCells (ivCells ⟨v.low, v.high, v.unb, v.right, v.ents, true, page, hl, hk4⟩ (.slice za m zc)) 0 _ (Kept.refl (fun x => x = _) _)) (EE.out.apart KA.out (show lEnt.ty ≠ 29 by decide))
                  have BS := below_setCells NA.out (ivCells ⟨v.low, v.high, v.unb, v.right, v.ents, true, page, hl, hk4⟩ (.slice za m zc)) 0 _ BB.out
                  have SN := HSL.out _ BS
                  refine AnyBut.one (i := 11) (o := ⟨none, _, _, _, _, none⟩) (by kernel_rfl) rfl (fun K hK => ?_)
                  rw [if_pos (by rfl)]
                  refine wp_store_mid 29 (.tmp 11) (.tmp 59) rfl _ 0 (ivCells ⟨v.low, v.high, v.unb, v.right, v.ents, true, page, hl, hk4⟩ (.slice za m zc)).toArray rfl rfl (KA.out.there 9 (Nat.le_refl _)) ivInfoS (iv_one _ _ _ _) ?_
                  refine hK.out _ _ (fun _ => SN) ?_
                  clear hK K
                  try simp only [Act.put]
                  refine AnyBut.one (i := 12) (o := ⟨some 12, _, _, _, _, none⟩) (by kernel_rfl) rfl (fun K hK => ?_)
                  go_simp
                  refine hK.out _ _ (fun h => absurd rfl h) ?_
                  clear hK K
                  try simp only [Act.put, List.setIfInBounds_toArray, List.set_cons_zero, List.set_cons_succ]
                  refine AnyBut.done (by kernel_rfl) ?_ _
                  go_wp2
                  go_meet
                  case rel => exact ⟨_, za, zc, rfl, rfl, HB.vb KS, ES, ZZ.out, BS⟩
                · go_simp
                  refine (ownI_any u ds q29 YL.out FL.out).mono ?_
                  rintro ev q34 ⟨y, dy, rfl, hy, hr, hs⟩
                  have RY := Lib.hid hr
                  have YY := Lib.hid (hy.mono BB.out.size)
                  have BB := Lib.hid (BB.out.trans (hs.mono BB.out.size))
                  have KA := Lib.hid (KA.out.below hs)
                  have SN := HSL.out _ BB.out
                  clear hy hr hs YL
                  refine hK.out _ _ (fun _ => SN) ?_
                  clear hK K SN
                  try simp only [Act.put, List.setIfInBounds_toArray, List.set_cons_zero, List.set_cons_succ]
                  refine AnyBut.one (i := 2) (o := ⟨some 54, _, _, _, _, none⟩) (by kernel_rfl) rfl (fun K hK => ?_)
                  have hb := alloc_below0 q34 (.cells #[.int .i64 10, .string ⟨#[]⟩, .string ⟨#[]⟩, .bool false, .int .i64 0, .slice none 0 0, .slice none 0 0, .string ⟨#[]⟩, .string ⟨#[]⟩, .int .i64 0, .int .i64 page, .int .i64 hl, .string hk4, .int .i64 0, .int .i64 0] 46)
                  have KB := Lib.hid (HB.new (.cells #[.int .i64 10, .string ⟨#[]⟩, .string ⟨#[]⟩, .bool false, .int .i64 0, .slice none 0 0, .slice none 0 0, .string ⟨#[]⟩, .string ⟨#[]⟩, .int .i64 0, .int .i64 page, .int .i64 hl, .string hk4, .int .i64 0, .int .i64 0] 46) q34)
                  have NZ := Lib.hid (show w5.heap.size ≤ q34.heap.size from BB.out.size)
                  have NB := Lib.hid NZ.out
                  have NE := Lib.hid (show _ ≠ _ from (Nat.ne_of_lt KA.out.lt))
                  have BB := Lib.hid (BB.out.trans (hb.mono BB.out.size))
                  have YY := Lib.hid (YY.out.below hb)
                  have KA := Lib.hid (KA.out.below hb)
                  have SN := HSL.out _ BB.out
                  go_simp
                  refine hK.out _ _ (fun _ => SN) ?_
                  clear hK K SN hb NZ
                  generalize hG : World.alloc q34 _ = q35 at BB KB YY KA ⊢
                  clear hG
                  try simp only [Act.put, List.setIfInBounds_toArray, List.set_cons_zero, List.set_cons_succ]
                  refine AnyBut.one (i := 5) (o := ⟨some 57, _, _, _, _, none⟩) (by kernel_rfl) rfl (fun K hK => ?_)
                  have PP := ChO.of_blk (base := w5.heap.size) (ss := [(⟨10, ⟨#[]⟩, ⟨#[]⟩, false, 0, ⟨#[]⟩, ⟨#[]⟩, 0, page, hl, hk4, 0, 0⟩ : Sc)]) NB.out KB.out (show 1 ≤ maxLen by decide) SC.out
                  refine step_appS lRec 22 Try.underlying22 lRec_known (by decide) (by decide) rfl (.tmp 54) (.tmp 56) rfl w5.heap.size rfl rfl PP.own YY.out.own.sv (by have := (few_read FW.out RY.out).1; simp; omega) BB.out.size ?_
                  intro v7 q36 ho hg
                  have QQ := Lib.hid (PP.append YY.out (Nat.le_refl _) ho hg)
                  have KA := Lib.hid (HB.grown KA.out hg (fun h => NE.out (Option.some.inj h)))
                  have BB := Lib.hid (BB.out.grown hg BB.out.size (fun k hk => (World.ownsRow.lt PP.own k hk).1))
                  have SN := HSL.out _ BB.out
                  clear PP ho hg KB YY NB NE
                  refine hK.out _ _ (fun _ => SN) ?_
                  clear hK K SN
                  try simp only [Act.put, List.setIfInBounds_toArray, List.set_cons_zero, List.set_cons_succ]
                  refine AnyBut.one (i := 6) (o := ⟨some 58, _, _, _, _, none⟩) (by kernel_rfl) rfl (fun K hK => ?_)
                  have RQ := (show readC (([(⟨10, ⟨#[]⟩, ⟨#[]⟩, false, 0, ⟨#[]⟩, ⟨#[]⟩, 0, page, hl, hk4, 0, 0⟩ : Sc)].map fun s => (⟨s, none, 0, none, 0, [], []⟩ : RcD)) ++ dy) = holdI10 page hl hk4 :: readC ds by (rw [readC_app, RY.out]; rfl))
                  have e1 := (show (([(⟨10, ⟨#[]⟩, ⟨#[]⟩, false, 0, ⟨#[]⟩, ⟨#[]⟩, 0, page, hl, hk4, 0, 0⟩ : Sc)].map fun s => (⟨s, none, 0, none, 0, [], []⟩ : RcD)) ++ dy).length ≤ 100 by (have := (few_read FW.out RY.out).1; simp; omega))
                  have e2 := (show ((([(⟨10, ⟨#[]⟩, ⟨#[]⟩, false, 0, ⟨#[]⟩, ⟨#[]⟩, 0, page, hl, hk4, 0, 0⟩ : Sc)].map fun s => (⟨s, none, 0, none, 0, [], []⟩ : RcD)) ++ dy).map fun d => d.ents.length).sum ≤ 1000 by (have := (few_read FW.out RY.out).2; simp; omega))
                  go_simp
                  refine (C.fold _ _ _ q36 QQ.out e1 e2).mono ?_
                  rintro ev q37 ⟨en2, rfl, hen, hsz, hs⟩
                  rw [RQ, CY.out.2] at hen hsz
                  rw [RQ, CY.out.1, CY.out.2, errV_zero rfl]
                  obtain ⟨za, zc, rfl, -, -⟩ := hen.lenN HM.out
                  unfold ivVal
                  have EE := Lib.hid (hen.mono BB.out.size)
                  have ZZ := Lib.hid hsz
                  have BB := Lib.hid (BB.out.trans (hs.mono BB.out.size))
                  have KA := Lib.hid (KA.out.below hs)
                  have SN := HSL.out _ BB.out
                  clear hen hsz hs RQ e1 e2 QQ
                  refine hK.out _ _ (fun _ => SN) ?_
                  clear hK K SN
                  have SX := Lib.hid (HSL.out _ BB.out)
                  refine AnyBut.take (i := 7) (oi := ⟨some 51, _, _, _, _, none⟩) (v := ?vAx107) rfl (by kernel_rfl) (by kernel_rfl) (by kernel_rfl) (by kernel_rfl) (fun _ _ _ h => h) (Or.inl ⟨by rfl, ?hyAx107⟩) SX.out ?restAx107
                  case hyAx107 => (intro w hSw; go_simp; try (with_reducible rfl))
                  simp only [Act.put, List.setIfInBounds_toArray, List.set_cons_zero, List.set_cons_succ]
                  refine AnyBut.take (i := 8) (oi := ⟨some 59, _, _, _, _, none⟩) (v := ?vAx108) rfl (by kernel_rfl) (by kernel_rfl) (by kernel_rfl) (by kernel_rfl) (fun _ _ _ h => h) (Or.inl ⟨by rfl, ?hyAx108⟩) SX.out ?restAx108
                  case hyAx108 => (intro w hSw; go_simp; try (with_reducible rfl))
                  simp only [Act.put, List.setIfInBounds_toArray, List.set_cons_zero, List.set_cons_succ]
                  refine AnyBut.take (i := 9) (oi := ⟨some 60, _, _, _, _, none⟩) (v := ?vAx109) rfl (by kernel_rfl) (by kernel_rfl) (by kernel_rfl) (by kernel_rfl) (fun _ _ _ h => h) (Or.inl ⟨by rfl, ?hyAx109⟩) SX.out ?restAx109
                  case hyAx109 => (intro w hSw; go_simp; try (with_reducible rfl))
                  simp only [Act.put, List.setIfInBounds_toArray, List.set_cons_zero, List.set_cons_succ]
                  clear SX
                  have KS := KA.out.sets (ivCells ⟨v.low, v.high, v.unb, v.right, v.ents, true, page, hl, hk4⟩ (.slice za m zc)) rfl
                  have ES := EE.out.kept (Kept.setCells (ivCells ⟨v.low, v.high, v.unb, v.right, v.ents, true, page, hl, hk4⟩ (.slice za m zc)) 0 _ (Kept.refl (fun x => x = _) _)) (EE.out.apart KA.out (show lEnt.ty ≠ 29 by decide))
                  have BS := below_setCells NA.out (ivCells ⟨v.low, v.high, v.unb, v.right, v.ents, true, page, hl, hk4⟩ (.slice za m zc)) 0 _ BB.out
                  have SN := HSL.out _ BS
                  refine AnyBut.one (i := 11) (o := ⟨none, _, _, _, _, none⟩) (by kernel_rfl) rfl (fun K hK => ?_)
                  rw [if_pos (by rfl)]
                  refine wp_store_mid 29 (.tmp 11) (.tmp 59) rfl _ 0 (ivCells ⟨v.low, v.high, v.unb, v.right, v.ents, true, page, hl, hk4⟩ (.slice za m zc)).toArray rfl rfl (KA.out.there 9 (Nat.le_refl _)) ivInfoS (iv_one _ _ _ _) ?_
                  refine hK.out _ _ (fun _ => SN) ?_
                  clear hK K
                  try simp only [Act.put]
                  refine AnyBut.one (i := 12) (o := ⟨some 12, _, _, _, _, none⟩) (by kernel_rfl) rfl (fun K hK => ?_)
                  go_simp
                  refine hK.out _ _ (fun h => absurd rfl h) ?_
                  clear hK K
                  try simp only [Act.put, List.setIfInBounds_toArray, List.set_cons_zero, List.set_cons_succ]
                  refine AnyBut.done (by kernel_rfl) ?_ _
                  go_wp2
                  go_meet
                  case rel => exact ⟨_, za, zc, rfl, rfl, HB.vb KS, ES, ZZ.out, BS⟩
            case rest =>
              obtain ⟨nbA, zaA, zcA, rfl, rfl, hV, hE, hZ, hs⟩ := hcut
              obtain ⟨wcA, hwq⟩ : ∃ x, x = wc := ⟨_, rfl⟩
              subst hwq
              have S5 := Lib.hid (S_B.out.size)
              have L7 := Lib.hid (L6.out.below hs)
              have B7 := Lib.hid (B6.out.trans (hs.mono B6.out.size))
              have X5 := Lib.hid (X4.out.below hs)
              have E4 := Lib.hid (E3.out.below hs)
              have V3 := Lib.hid (V2.out.below hs)
              have H3 := Lib.hid (H2.out.below hs)
              have D1 := Lib.hid (D0.out.below hs)
              have W1 := Lib.hid (W0.out.trans (hs.mono W0.out.size))
              clear L6 B6 X4 E3 V2 H2 D0 W0
              have Uh0 := Lib.hid (hV)
              have Fh0 := Lib.hid (hE.mono S5.out)
              have Yh0 := Lib.hid (hZ)
              clear hs hV hE hZ S5 HSL FL CY SC W1 S_L S_B S_X S_E S_V S_H S_D
              go_wp2_with fail
              obtain ⟨dw, hd1, hd2, hd3, hd4⟩ := DM.out.2
              have CY := Lib.hid (code_yes (all_cons2 (r := dropI11) (s := holdI10 page hl hk4) rfl rfl HC.out) hd1)
              have PH := Lib.hid hd2
              have PL := Lib.hid hd3
              have PC := Lib.hid hd4
              have G2 := Lib.hid (goodI_fold hd1)
              obtain ⟨m2, hm2⟩ : ∃ n, dw.ents.length = n := ⟨_, rfl⟩
              have HM2 := Lib.hid hm2
              clear hd1 hd2 hd3 hd4 hm2
              have SC := Lib.hid (show ∀ s ∈ [(⟨11, ⟨#[]⟩, ⟨#[]⟩, false, 0, ⟨#[]⟩, ⟨#[]⟩, 0, 0, 0, ⟨#[]⟩, 0, 0⟩ : Sc), ⟨10, ⟨#[]⟩, ⟨#[]⟩, false, 0, ⟨#[]⟩, ⟨#[]⟩, 0, page, hl, hk4, 0, 0⟩], SzS s from fun s h => by simp only [List.mem_cons, List.not_mem_nil, or_false] at h; rcases h with rfl | rfl <;> exact ⟨show 0 ≤ maxLen by decide, show 0 ≤ maxLen by decide, show 0 ≤ maxLen by decide, show 0 ≤ maxLen by decide, by first | exact KS.out | exact show 0 ≤ maxLen by decide⟩)
              have S_L := L7
              have S_B := B7
              have S_X := X5
              have S_E := E4
              have S_V := V3
              have S_H := H3
              have S_D := D1
              have S_Uh := Uh0
              have S_Fh := Fh0
              have W0 := Lib.hid (Below.refl wcA.heap.size wcA)
              have HSL := Lib.hid (show ∀ w', Below wcA.heap.size wcA w' → (fun w' => w'.cell? ⟨w4.heap.size, 0, none⟩ = some (.int .i64 page) ∧ w'.cell? ⟨w4.heap.size, 1, none⟩ = some (.int .i64 hl) ∧ w'.cell? ⟨w4.heap.size, 2, none⟩ = some (.string hk4)) w' from fun w' hs => ⟨(S_D.out.below hs).c0, (S_D.out.below hs).c1, (S_D.out.below hs).c2⟩)
              have FL := Lib.hid (show ds.length ≤ 1000 by have := FW.out.1; omega)
              go_cut [13, 14] from 19 (fun sp se wcB => ∃ (nb : Nat) (za : Option Addr) (zc : Nat), sp = .pointer (some ⟨nb, 0, none⟩) ∧ se = .nilIface ∧ VB nb dw (.slice za m2 zc) wcB ∧ OwnS lEnt wcA.heap.size wcB (.slice za m2 zc) (dw : IvD).ents ∧ SzI dw ∧ Below wcA.heap.size wcA wcB)
              case first =>
                refine AnyBut.region (fun w' => w'.cell? ⟨w4.heap.size, 0, none⟩ = some (.int .i64 page) ∧ w'.cell? ⟨w4.heap.size, 1, none⟩ = some (.int .i64 hl) ∧ w'.cell? ⟨w4.heap.size, 2, none⟩ = some (.string hk4)) 13 (by kernel_rfl) ?_
                have BB := Lib.hid (Below.refl wcA.heap.size wcA).drew
                have YL := Lib.hid (S_L.out.below (Below.refl _ _).drew)
                have LS := Lib.hid (show wcA.drew.heap.size = wcA.heap.size from rfl)
                obtain ⟨q0, hq0⟩ : ∃ W, W = World.drew wcA := ⟨_, rfl⟩
                rw [← hq0] at BB YL LS ⊢
                clear hq0
                have SD := Lib.hid (HSL.out q0 BB.out)
                refine AnyBut.take (i := 0) (oi := ⟨some 62, _, _, _, _, none⟩) (v := ?vB0) rfl (by kernel_rfl) (by kernel_rfl) (by kernel_rfl) (by kernel_rfl) (fun _ _ _ h => h) (Or.inl ⟨by rfl, ?hyB0⟩) SD.out ?restB0
                case hyB0 => (intro w hSw; go_simp; try (with_reducible rfl))
                simp only [Act.put, List.setIfInBounds_toArray, List.set_cons_zero, List.set_cons_succ]
                refine AnyBut.take (i := 1) (oi := ⟨some 63, _, _, _, _, none⟩) (v := ?vB1) rfl (by kernel_rfl) (by kernel_rfl) (by kernel_rfl) (by kernel_rfl) (fun _ _ _ h => h) (Or.inl ⟨by rfl, ?hyB1⟩) SD.out ?restB1
                case hyB1 => (intro w hSw; go_simp; try (with_reducible rfl))
                simp only [Act.put, List.setIfInBounds_toArray, List.set_cons_zero, List.set_cons_succ]
                refine AnyBut.take (i := 2) (oi := ⟨some 64, _, _, _, _, none⟩) (v := ?vB2) rfl (by kernel_rfl) (by kernel_rfl) (by kernel_rfl) (by kernel_rfl) (fun _ _ _ h => h) (Or.inl ⟨by rfl, ?hyB2⟩) SD.out ?restB2
                case hyB2 => (intro w hSw; go_simp; try (with_reducible rfl))
                simp only [Act.put, List.setIfInBounds_toArray, List.set_cons_zero, List.set_cons_succ]
                refine AnyBut.take (i := 4) (oi := ⟨some 66, _, _, _, _, none⟩) (v := ?vB4) rfl (by kernel_rfl) (by kernel_rfl) (by kernel_rfl) (by kernel_rfl) (fun _ _ _ h => h) (Or.inl ⟨by rfl, ?hyB4⟩) SD.out ?restB4
                case hyB4 => (intro w hSw; go_simp; try (with_reducible rfl))
                simp only [Act.put, List.setIfInBounds_toArray, List.set_cons_zero, List.set_cons_succ]
                clear SD
                refine AnyBut.three (i := 3) (j := 5) (k := 11) (o := ⟨some 65, _, _, _, _, none⟩) (u := ⟨some 67, _, _, _, _, none⟩) (x := ⟨some 13, _, _, _, _, none⟩) (by kernel_rfl) rfl rfl rfl (fun K hK => ?_) (fun K hK => ?_) (fun K hK => ?_)
                · have hb := alloc_below0 q0 (.cells #[.int .i64 11, .string ⟨#[]⟩, .string ⟨#[]⟩, .bool false, .int .i64 0, .slice none 0 0, .slice none 0 0, .string ⟨#[]⟩, .string ⟨#[]⟩, .int .i64 0, .int .i64 0, .int .i64 0, .string ⟨#[]⟩, .int .i64 0, .int .i64 0, .int .i64 10, .string ⟨#[]⟩, .string ⟨#[]⟩, .bool false, .int .i64 0, .slice none 0 0, .slice none 0 0, .string ⟨#[]⟩, .string ⟨#[]⟩, .int .i64 0, .int .i64 page, .int .i64 hl, .string hk4, .int .i64 0, .int .i64 0] 46)
                  have KB := Lib.hid (HB.new (.cells #[.int .i64 11, .string ⟨#[]⟩, .string ⟨#[]⟩, .bool false, .int .i64 0, .slice none 0 0, .slice none 0 0, .string ⟨#[]⟩, .string ⟨#[]⟩, .int .i64 0, .int .i64 0, .int .i64 0, .string ⟨#[]⟩, .int .i64 0, .int .i64 0, .int .i64 10, .string ⟨#[]⟩, .string ⟨#[]⟩, .bool false, .int .i64 0, .slice none 0 0, .slice none 0 0, .string ⟨#[]⟩, .string ⟨#[]⟩, .int .i64 0, .int .i64 page, .int .i64 hl, .string hk4, .int .i64 0, .int .i64 0] 46) q0)
                  have NZ := Lib.hid (show wcA.heap.size ≤ q0.heap.size from BB.out.size)
                  have NB := Lib.hid NZ.out
                  have BB := Lib.hid (BB.out.trans (hb.mono BB.out.size))
                  have YL := Lib.hid (YL.out.below hb)
                  have SN := HSL.out _ BB.out
                  go_simp
                  refine hK.out _ _ (fun _ => SN) ?_
                  clear hK K SN hb NZ
                  generalize hG : World.alloc q0 _ = q1 at BB YL KB ⊢
                  clear hG
                  try simp only [Act.put, List.setIfInBounds_toArray, List.set_cons_zero, List.set_cons_succ]
                  refine AnyBut.two (i := 5) (j := 11) (o := ⟨some 67, _, _, _, _, none⟩) (u := ⟨some 13, _, _, _, _, none⟩) (by kernel_rfl) rfl rfl (fun K hK => ?_) (fun K hK => ?_)
                  · go_simp
                    refine (ownI_any u ds q1 YL.out FL.out).mono ?_
                    rintro ev q2 ⟨y, dy, rfl, hy, hr, hs⟩
                    have RY := Lib.hid hr
                    have YY := Lib.hid (hy.mono BB.out.size)
                    have BB := Lib.hid (BB.out.trans (hs.mono BB.out.size))
                    have KB := Lib.hid (KB.out.below hs)
                    have SN := HSL.out _ BB.out
                    clear hy hr hs YL
                    refine hK.out _ _ (fun _ => SN) ?_
                    clear hK K SN
                    try simp only [Act.put, List.setIfInBounds_toArray, List.set_cons_zero, List.set_cons_succ]
                    refine AnyBut.two (i := 6) (j := 11) (o := ⟨some 68, _, _, _, _, none⟩) (u := ⟨some 13, _, _, _, _, none⟩) (by kernel_rfl) rfl rfl (fun K hK => ?_) (fun K hK => ?_)
                    · have PP := ChO.of_blk (base := wcA.heap.size) (ss := [(⟨11, ⟨#[]⟩, ⟨#[]⟩, false, 0, ⟨#[]⟩, ⟨#[]⟩, 0, 0, 0, ⟨#[]⟩, 0, 0⟩ : Sc), ⟨10, ⟨#[]⟩, ⟨#[]⟩, false, 0, ⟨#[]⟩, ⟨#[]⟩, 0, page, hl, hk4, 0, 0⟩]) NB.out KB.out (show 2 ≤ maxLen by decide) SC.out
                      refine step_appS lRec 22 Try.underlying22 lRec_known (by decide) (by decide) rfl (.tmp 65) (.tmp 67) rfl wcA.heap.size rfl rfl PP.own YY.out.own.sv (by have := (few_read FW.out RY.out).1; simp; omega) BB.out.size ?_
                      intro v7 q3 ho hg
                      have QQ := Lib.hid (PP.append YY.out (Nat.le_refl _) ho hg)
                      have BB := Lib.hid (BB.out.grown hg BB.out.size (fun k hk => (World.ownsRow.lt PP.own k hk).1))
                      have SN := HSL.out _ BB.out
                      clear PP ho hg KB YY NB
                      refine hK.out _ _ (fun _ => SN) ?_
                      clear hK K SN
                      try simp only [Act.put, List.setIfInBounds_toArray, List.set_cons_zero, List.set_cons_succ]
                      refine AnyBut.two (i := 7) (j := 11) (o := ⟨some 69, _, _, _, _, none⟩) (u := ⟨some 13, _, _, _, _, none⟩) (by kernel_rfl) rfl rfl (fun K hK => ?_) (fun K hK => ?_)
                      · have RQ := (show readC (([(⟨11, ⟨#[]⟩, ⟨#[]⟩, false, 0, ⟨#[]⟩, ⟨#[]⟩, 0, 0, 0, ⟨#[]⟩, 0, 0⟩ : Sc), ⟨10, ⟨#[]⟩, ⟨#[]⟩, false, 0, ⟨#[]⟩, ⟨#[]⟩, 0, page, hl, hk4, 0, 0⟩].map fun s => (⟨s, none, 0, none, 0, [], []⟩ : RcD)) ++ dy) = dropI11 :: holdI10 page hl hk4 :: readC ds by (rw [readC_app, RY.out]; rfl))
                        have e1 := (show (([(⟨11, ⟨#[]⟩, ⟨#[]⟩, false, 0, ⟨#[]⟩, ⟨#[]⟩, 0, 0, 0, ⟨#[]⟩, 0, 0⟩ : Sc), ⟨10, ⟨#[]⟩, ⟨#[]⟩, false, 0, ⟨#[]⟩, ⟨#[]⟩, 0, page, hl, hk4, 0, 0⟩].map fun s => (⟨s, none, 0, none, 0, [], []⟩ : RcD)) ++ dy).length ≤ 100 by (have := (few_read FW.out RY.out).1; simp; omega))
                        have e2 := (show ((([(⟨11, ⟨#[]⟩, ⟨#[]⟩, false, 0, ⟨#[]⟩, ⟨#[]⟩, 0, 0, 0, ⟨#[]⟩, 0, 0⟩ : Sc), ⟨10, ⟨#[]⟩, ⟨#[]⟩, false, 0, ⟨#[]⟩, ⟨#[]⟩, 0, page, hl, hk4, 0, 0⟩].map fun s => (⟨s, none, 0, none, 0, [], []⟩ : RcD)) ++ dy).map fun d => d.ents.length).sum ≤ 1000 by (have := (few_read FW.out RY.out).2; simp; omega))
                        go_simp
                        refine (C.fold _ _ _ q3 QQ.out e1 e2).mono ?_
                        rintro ev q4 ⟨en2, rfl, hen, hsz, hs⟩
                        rw [RQ, CY.out.2] at hen hsz
                        rw [RQ, CY.out.1, CY.out.2, errV_zero rfl]
                        obtain ⟨za, zc, rfl, -, -⟩ := hen.lenN HM2.out
                        unfold ivVal
                        have EE := Lib.hid (hen.mono BB.out.size)
                        have ZZ := Lib.hid hsz
                        have BB := Lib.hid (BB.out.trans (hs.mono BB.out.size))
                        have SN := HSL.out _ BB.out
                        clear hen hsz hs RQ e1 e2 QQ
                        refine hK.out _ _ (fun _ => SN) ?_
                        clear hK K SN
                        have SX := Lib.hid (HSL.out _ BB.out)
                        refine AnyBut.take (i := 8) (oi := ⟨some 61, _, _, _, _, none⟩) (v := ?vBx18) rfl (by kernel_rfl) (by kernel_rfl) (by kernel_rfl) (by kernel_rfl) (fun _ _ _ h => h) (Or.inl ⟨by rfl, ?hyBx18⟩) SX.out ?restBx18
                        case hyBx18 => (intro w hSw; go_simp; try (with_reducible rfl))
                        simp only [Act.put, List.setIfInBounds_toArray, List.set_cons_zero, List.set_cons_succ]
                        refine AnyBut.take (i := 9) (oi := ⟨some 70, _, _, _, _, none⟩) (v := ?vBx19) rfl (by kernel_rfl) (by kernel_rfl) (by kernel_rfl) (by kernel_rfl) (fun _ _ _ h => h) (Or.inl ⟨by rfl, ?hyBx19⟩) SX.out ?restBx19
                        case hyBx19 => (intro w hSw; go_simp; try (with_reducible rfl))
                        simp only [Act.put, List.setIfInBounds_toArray, List.set_cons_zero, List.set_cons_succ]
                        refine AnyBut.take (i := 10) (oi := ⟨some 71, _, _, _, _, none⟩) (v := ?vBx110) rfl (by kernel_rfl) (by kernel_rfl) (by kernel_rfl) (by kernel_rfl) (fun _ _ _ h => h) (Or.inl ⟨by rfl, ?hyBx110⟩) SX.out ?restBx110
                        case hyBx110 => (intro w hSw; go_simp; try (with_reducible rfl))
                        simp only [Act.put, List.setIfInBounds_toArray, List.set_cons_zero, List.set_cons_succ]
                        clear SX
                        refine AnyBut.one (i := 11) (o := ⟨some 13, _, _, _, _, none⟩) (by kernel_rfl) rfl (fun K hK => ?_)
                        have hb := alloc_below0 q4 (.cells #[.string ⟨#[]⟩, .string ⟨#[]⟩, .bool false, .int .i64 0, .slice none 0 0, .bool false, .int .i64 0, .int .i64 0, .string ⟨#[]⟩] 29)
                        have KA := Lib.hid (HB.new (.cells #[.string ⟨#[]⟩, .string ⟨#[]⟩, .bool false, .int .i64 0, .slice none 0 0, .bool false, .int .i64 0, .int .i64 0, .string ⟨#[]⟩] 29) q4)
                        have NZ := Lib.hid (show wcA.heap.size ≤ q4.heap.size from BB.out.size)
                        have NA := Lib.hid NZ.out
                        have BB := Lib.hid (BB.out.trans (hb.mono BB.out.size))
                        have EE := Lib.hid (EE.out.below hb)
                        have SN := HSL.out _ BB.out
                        go_simp
                        refine hK.out _ _ (fun _ => SN) ?_
                        clear hK K SN hb NZ
                        generalize hG : World.alloc q4 _ = q5 at BB KA EE ⊢
                        clear hG
                        try simp only [Act.put, List.setIfInBounds_toArray, List.set_cons_zero, List.set_cons_succ]
                        have KS := KA.out.sets (ivCells dw (.slice za m2 zc)) rfl
                        have ES := EE.out.kept (Kept.setCells (ivCells dw (.slice za m2 zc)) 0 _ (Kept.refl (fun x => x = _) _)) (EE.out.apart KA.out (show lEnt.ty ≠ 29 by decide))
                        have BS := below_setCells NA.out (ivCells dw (.slice za m2 zc)) 0 _ BB.out
                        have SN := HSL.out _ BS
                        refine AnyBut.one (i := 12) (o := ⟨none, _, _, _, _, none⟩) (by kernel_rfl) rfl (fun K hK => ?_)
                        rw [if_pos (by rfl)]
                        refine wp_store_mid 29 (.tmp 13) (.tmp 70) rfl _ 0 (ivCells dw (.slice za m2 zc)).toArray rfl rfl (KA.out.there 9 (Nat.le_refl _)) ivInfoS (iv_one _ _ _ _) ?_
                        refine hK.out _ _ (fun _ => SN) ?_
                        clear hK K
                        try simp only [Act.put]
                        refine AnyBut.one (i := 13) (o := ⟨some 14, _, _, _, _, none⟩) (by kernel_rfl) rfl (fun K hK => ?_)
                        go_simp
                        refine hK.out _ _ (fun h => absurd rfl h) ?_
                        clear hK K
                        try simp only [Act.put, List.setIfInBounds_toArray, List.set_cons_zero, List.set_cons_succ]
                        refine AnyBut.done (by kernel_rfl) ?_ _
                        go_wp2
                        go_meet
                        case rel => exact ⟨_, za, zc, rfl, rfl, HB.vb KS, ES, ZZ.out, BS⟩
                      · have hb := alloc_below0 q3 (.cells #[.string ⟨#[]⟩, .string ⟨#[]⟩, .bool false, .int .i64 0, .slice none 0 0, .bool false, .int .i64 0, .int .i64 0, .string ⟨#[]⟩] 29)
                        have KA := Lib.hid (HB.new (.cells #[.string ⟨#[]⟩, .string ⟨#[]⟩, .bool false, .int .i64 0, .slice none 0 0, .bool false, .int .i64 0, .int .i64 0, .string ⟨#[]⟩] 29) q3)
                        have NZ := Lib.hid (show wcA.heap.size ≤ q3.heap.size from BB.out.size)
                        have NA := Lib.hid NZ.out
                        have BB := Lib.hid (BB.out.trans (hb.mono BB.out.size))
                        have QQ := Lib.hid (QQ.out.below hb)
                        have SN := HSL.out _ BB.out
                        go_simp
                        refine hK.out _ _ (fun _ => SN) ?_
                        clear hK K SN hb NZ
                        generalize hG : World.alloc q3 _ = q6 at BB KA QQ ⊢
                        clear hG
                        try simp only [Act.put, List.setIfInBounds_toArray, List.set_cons_zero, List.set_cons_succ]
                        refine AnyBut.one (i := 7) (o := ⟨some 69, _, _, _, _, none⟩) (by kernel_rfl) rfl (fun K hK => ?_)
                        have RQ := (show readC (([(⟨11, ⟨#[]⟩, ⟨#[]⟩, false, 0, ⟨#[]⟩, ⟨#[]⟩, 0, 0, 0, ⟨#[]⟩, 0, 0⟩ : Sc), ⟨10, ⟨#[]⟩, ⟨#[]⟩, false, 0, ⟨#[]⟩, ⟨#[]⟩, 0, page, hl, hk4, 0, 0⟩].map fun s => (⟨s, none, 0, none, 0, [], []⟩ : RcD)) ++ dy) = dropI11 :: holdI10 page hl hk4 :: readC ds by (rw [readC_app, RY.out]; rfl))
                        have e1 := (show (([(⟨11, ⟨#[]⟩, ⟨#[]⟩, false, 0, ⟨#[]⟩, ⟨#[]⟩, 0, 0, 0, ⟨#[]⟩, 0, 0⟩ : Sc), ⟨10, ⟨#[]⟩, ⟨#[]⟩, false, 0, ⟨#[]⟩, ⟨#[]⟩, 0, page, hl, hk4, 0, 0⟩].map fun s => (⟨s, none, 0, none, 0, [], []⟩ : RcD)) ++ dy).length ≤ 100 by (have := (few_read FW.out RY.out).1; simp; omega))
                        have e2 := (show ((([(⟨11, ⟨#[]⟩, ⟨#[]⟩, false, 0, ⟨#[]⟩, ⟨#[]⟩, 0, 0, 0, ⟨#[]⟩, 0, 0⟩ : Sc), ⟨10, ⟨#[]⟩, ⟨#[]⟩, false, 0, ⟨#[]⟩, ⟨#[]⟩, 0, page, hl, hk4, 0, 0⟩].map fun s => (⟨s, none, 0, none, 0, [], []⟩ : RcD)) ++ dy).map fun d => d.ents.length).sum ≤ 1000 by (have := (few_read FW.out RY.out).2; simp; omega))
                        go_simp
                        refine (C.fold _ _ _ q6 QQ.out e1 e2).mono ?_
                        rintro ev q7 ⟨en2, rfl, hen, hsz, hs⟩
                        rw [RQ, CY.out.2] at hen hsz
                        rw [RQ, CY.out.1, CY.out.2, errV_zero rfl]
                        obtain ⟨za, zc, rfl, -, -⟩ := hen.lenN HM2.out
                        unfold ivVal
                        have EE := Lib.hid (hen.mono BB.out.size)
                        have ZZ := Lib.hid hsz
                        have BB := Lib.hid (BB.out.trans (hs.mono BB.out.size))
                        have KA := Lib.hid (KA.out.below hs)
                        have SN := HSL.out _ BB.out
                        clear hen hsz hs RQ e1 e2 QQ
                        refine hK.out _ _ (fun _ => SN) ?_
                        clear hK K SN
                        have SX := Lib.hid (HSL.out _ BB.out)
                        refine AnyBut.take (i := 8) (oi := ⟨some 61, _, _, _, _, none⟩) (v := ?vBx28) rfl (by kernel_rfl) (by kernel_rfl) (by kernel_rfl) (by kernel_rfl) (fun _ _ _ h => h) (Or.inl ⟨by rfl, ?hyBx28⟩) SX.out ?restBx28
                        case hyBx28 => (intro w hSw; go_simp; try (with_reducible rfl))
                        simp only [Act.put, List.setIfInBounds_toArray, List.set_cons_zero, List.set_cons_succ]
                        refine AnyBut.take (i := 9) (oi := ⟨some 70, _, _, _, _, none⟩) (v := ?vBx29) rfl (by kernel_rfl) (by kernel_rfl) (by kernel_rfl) (by kernel_rfl) (fun _ _ _ h => h) (Or.inl ⟨by rfl, ?hyBx29⟩) SX.out ?restBx29
                        case hyBx29 => (intro w hSw; go_simp; try (with_reducible rfl))
                        simp only [Act.put, List.setIfInBounds_toArray, List.set_cons_zero, List.set_cons_succ]
                        refine AnyBut.take (i := 10) (oi := ⟨some 71, _, _, _, _, none⟩) (v := ?vBx210) rfl (by kernel_rfl) (by kernel_rfl) (by kernel_rfl) (by kernel_rfl) (fun _ _ _ h => h) (Or.inl ⟨by rfl, ?hyBx210⟩) SX.out ?restBx210
                        case hyBx210 => (intro w hSw; go_simp; try (with_reducible rfl))
                        simp only [Act.put, List.setIfInBounds_toArray, List.set_cons_zero, List.set_cons_succ]
                        clear SX
                        have KS := KA.out.sets (ivCells dw (.slice za m2 zc)) rfl
                        have ES := EE.out.kept (Kept.setCells (ivCells dw (.slice za m2 zc)) 0 _ (Kept.refl (fun x => x = _) _)) (EE.out.apart KA.out (show lEnt.ty ≠ 29 by decide))
                        have BS := below_setCells NA.out (ivCells dw (.slice za m2 zc)) 0 _ BB.out
                        have SN := HSL.out _ BS
                        refine AnyBut.one (i := 12) (o := ⟨none, _, _, _, _, none⟩) (by kernel_rfl) rfl (fun K hK => ?_)
                        rw [if_pos (by rfl)]
                        refine wp_store_mid 29 (.tmp 13) (.tmp 70) rfl _ 0 (ivCells dw (.slice za m2 zc)).toArray rfl rfl (KA.out.there 9 (Nat.le_refl _)) ivInfoS (iv_one _ _ _ _) ?_
                        refine hK.out _ _ (fun _ => SN) ?_
                        clear hK K
                        try simp only [Act.put]
                        refine AnyBut.one (i := 13) (o := ⟨some 14, _, _, _, _, none⟩) (by kernel_rfl) rfl (fun K hK => ?_)
                        go_simp
                        refine hK.out _ _ (fun h => absurd rfl h) ?_
                        clear hK K
                        try simp only [Act.put, List.setIfInBounds_toArray, List.set_cons_zero, List.set_cons_succ]
                        refine AnyBut.done (by kernel_rfl) ?_ _
                        go_wp2
                        go_meet
                        case rel => exact ⟨_, za, zc, rfl, rfl, HB.vb KS, ES, ZZ.out, BS⟩
                    · have hb := alloc_below0 q2 (.cells #[.string ⟨#[]⟩, .string ⟨#[]⟩, .bool false, .int .i64 0, .slice none 0 0, .bool false, .int .i64 0, .int .i64 0, .string ⟨#[]⟩] 29)
                      have KA := Lib.hid (HB.new (.cells #[.string ⟨#[]⟩, .string ⟨#[]⟩, .bool false, .int .i64 0, .slice none 0 0, .bool false, .int .i64 0, .int .i64 0, .string ⟨#[]⟩] 29) q2)
                      have NZ := Lib.hid (show wcA.heap.size ≤ q2.heap.size from BB.out.size)
                      have NE := Lib.hid (show _ ≠ _ from (Nat.ne_of_gt KB.out.lt))
                      have NA := Lib.hid NZ.out
                      have BB := Lib.hid (BB.out.trans (hb.mono BB.out.size))
                      have KB := Lib.hid (KB.out.below hb)
                      have YY := Lib.hid (YY.out.below hb)
                      have SN := HSL.out _ BB.out
                      go_simp
                      refine hK.out _ _ (fun _ => SN) ?_
                      clear hK K SN hb NZ
                      generalize hG : World.alloc q2 _ = q8 at BB KB YY KA ⊢
                      clear hG
                      try simp only [Act.put, List.setIfInBounds_toArray, List.set_cons_zero, List.set_cons_succ]
                      refine AnyBut.one (i := 6) (o := ⟨some 68, _, _, _, _, none⟩) (by kernel_rfl) rfl (fun K hK => ?_)
                      have PP := ChO.of_blk (base := wcA.heap.size) (ss := [(⟨11, ⟨#[]⟩, ⟨#[]⟩, false, 0, ⟨#[]⟩, ⟨#[]⟩, 0, 0, 0, ⟨#[]⟩, 0, 0⟩ : Sc), ⟨10, ⟨#[]⟩, ⟨#[]⟩, false, 0, ⟨#[]⟩, ⟨#[]⟩, 0, page, hl, hk4, 0, 0⟩]) NB.out KB.out (show 2 ≤ maxLen by decide) SC.out
                      refine step_appS lRec 22 Try.underlying22 lRec_known (by decide) (by decide) rfl (.tmp 65) (.tmp 67) rfl wcA.heap.size rfl rfl PP.own YY.out.own.sv (by have := (few_read FW.out RY.out).1; simp; omega) BB.out.size ?_
                      intro v7 q9 ho hg
                      have QQ := Lib.hid (PP.append YY.out (Nat.le_refl _) ho hg)
                      have KA := Lib.hid (HB.grown KA.out hg (fun h => NE.out (Option.some.inj h)))
                      have BB := Lib.hid (BB.out.grown hg BB.out.size (fun k hk => (World.ownsRow.lt PP.own k hk).1))
                      have SN := HSL.out _ BB.out
                      clear PP ho hg KB YY NB NE
                      refine hK.out _ _ (fun _ => SN) ?_
                      clear hK K SN
                      try simp only [Act.put, List.setIfInBounds_toArray, List.set_cons_zero, List.set_cons_succ]
                      refine AnyBut.one (i := 7) (o := ⟨some 69, _, _, _, _, none⟩) (by kernel_rfl) rfl (fun K hK => ?_)
                      have RQ := (show readC (([(⟨11, ⟨#[]⟩, ⟨#[]⟩, false, 0, ⟨#[]⟩, ⟨#[]⟩, 0, 0, 0, ⟨#[]⟩, 0, 0⟩ : Sc), ⟨10, ⟨#[]⟩, ⟨#[]⟩, false, 0, ⟨#[]⟩, ⟨#[]⟩, 0, page, hl, hk4, 0, 0⟩].map fun s => (⟨s, none, 0, none, 0, [], []⟩ : RcD)) ++ dy) = dropI11 :: holdI10 page hl hk4 :: readC ds by (rw [readC_app, RY.out]; rfl))
                      have e1 := (show (([(⟨11, ⟨#[]⟩, ⟨#[]⟩, false, 0, ⟨#[]⟩, ⟨#[]⟩, 0, 0, 0, ⟨#[]⟩, 0, 0⟩ : Sc), ⟨10, ⟨#[]⟩, ⟨#[]⟩, false, 0, ⟨#[]⟩, ⟨#[]⟩, 0, page, hl, hk4, 0, 0⟩].map fun s => (⟨s, none, 0, none, 0, [], []⟩ : RcD)) ++ dy).length ≤ 100 by (have := (few_read FW.out RY.out).1; simp; omega))
                      have e2 := (show ((([(⟨11, ⟨#[]⟩, ⟨#[]⟩, false, 0, ⟨#[]⟩, ⟨#[]⟩, 0, 0, 0, ⟨#[]⟩, 0, 0⟩ : Sc), ⟨10, ⟨#[]⟩, ⟨#[]⟩, false, 0, ⟨#[]⟩, ⟨#[]⟩, 0, page, hl, hk4, 0, 0⟩].map fun s => (⟨s, none, 0, none, 0, [], []⟩ : RcD)) ++ dy).map fun d => d.ents.length).sum ≤ 1000 by (have := (few_read FW.out RY.out).2; simp; omega))
                      go_simp
                      refine (C.fold _ _ _ q9 QQ.out e1 e2).mono ?_
                      rintro ev q10 ⟨en2, rfl, hen, hsz, hs⟩
                      rw [RQ, CY.out.2] at hen hsz
                      rw [RQ, CY.out.1, CY.out.2, errV_zero rfl]
                      obtain ⟨za, zc, rfl, -, -⟩ := hen.lenN HM2.out
                      unfold ivVal
                      have EE := Lib.hid (hen.mono BB.out.size)
                      have ZZ := Lib.hid hsz
                      have BB := Lib.hid (BB.out.trans (hs.mono BB.out.size))
                      have KA := Lib.hid (KA.out.below hs)
                      have SN := HSL.out _ BB.out
                      clear hen hsz hs RQ e1 e2 QQ
                      refine hK.out _ _ (fun _ => SN) ?_
                      clear hK K SN
                      have SX := Lib.hid (HSL.out _ BB.out)
                      refine AnyBut.take (i := 8) (oi := ⟨some 61, _, _, _, _, none⟩) (v := ?vBx38) rfl (by kernel_rfl) (by kernel_rfl) (by kernel_rfl) (by kernel_rfl) (fun _ _ _ h => h) (Or.inl ⟨by rfl, ?hyBx38⟩) SX.out ?restBx38
                      case hyBx38 => (intro w hSw; go_simp; try (with_reducible rfl))
                      simp only [Act.put, List.setIfInBounds_toArray, List.set_cons_zero, List.set_cons_succ]
                      refine AnyBut.take (i := 9) (oi := ⟨some 70, _, _, _, _, none⟩) (v := ?vBx39) rfl (by kernel_rfl) (by kernel_rfl) (by kernel_rfl) (by kernel_rfl) (fun _ _ _ h => h) (Or.inl ⟨by rfl, ?hyBx39⟩) SX.out ?restBx39
                      case hyBx39 => (intro w hSw; go_simp; try (with_reducible rfl))
                      simp only [Act.put, List.setIfInBounds_toArray, List.set_cons_zero, List.set_cons_succ]
                      refine AnyBut.take (i := 10) (oi := ⟨some 71, _, _, _, _, none⟩) (v := ?vBx310) rfl (by kernel_rfl) (by kernel_rfl) (by kernel_rfl) (by kernel_rfl) (fun _ _ _ h => h) (Or.inl ⟨by rfl, ?hyBx310⟩) SX.out ?restBx310
                      case hyBx310 => (intro w hSw; go_simp; try (with_reducible rfl))
                      simp only [Act.put, List.setIfInBounds_toArray, List.set_cons_zero, List.set_cons_succ]
                      clear SX
                      have KS := KA.out.sets (ivCells dw (.slice za m2 zc)) rfl
                      have ES := EE.out.kept (Kept.setCells (ivCells dw (.slice za m2 zc)) 0 _ (Kept.refl (fun x => x = _) _)) (EE.out.apart KA.out (show lEnt.ty ≠ 29 by decide))
                      have BS := below_setCells NA.out (ivCells dw (.slice za m2 zc)) 0 _ BB.out
                      have SN := HSL.out _ BS
                      refine AnyBut.one (i := 12) (o := ⟨none, _, _, _, _, none⟩) (by kernel_rfl) rfl (fun K hK => ?_)
                      rw [if_pos (by rfl)]
                      refine wp_store_mid 29 (.tmp 13) (.tmp 70) rfl _ 0 (ivCells dw (.slice za m2 zc)).toArray rfl rfl (KA.out.there 9 (Nat.le_refl _)) ivInfoS (iv_one _ _ _ _) ?_
                      refine hK.out _ _ (fun _ => SN) ?_
                      clear hK K
                      try simp only [Act.put]
                      refine AnyBut.one (i := 13) (o := ⟨some 14, _, _, _, _, none⟩) (by kernel_rfl) rfl (fun K hK => ?_)
                      go_simp
                      refine hK.out _ _ (fun h => absurd rfl h) ?_
                      clear hK K
                      try simp only [Act.put, List.setIfInBounds_toArray, List.set_cons_zero, List.set_cons_succ]
                      refine AnyBut.done (by kernel_rfl) ?_ _
                      go_wp2
                      go_meet
                      case rel => exact ⟨_, za, zc, rfl, rfl, HB.vb KS, ES, ZZ.out, BS⟩
                  · have hb := alloc_below0 q1 (.cells #[.string ⟨#[]⟩, .string ⟨#[]⟩, .bool false, .int .i64 0, .slice none 0 0, .bool false, .int .i64 0, .int .i64 0, .string ⟨#[]⟩] 29)
                    have KA := Lib.hid (HB.new (.cells #[.string ⟨#[]⟩, .string ⟨#[]⟩, .bool false, .int .i64 0, .slice none 0 0, .bool false, .int .i64 0, .int .i64 0, .string ⟨#[]⟩] 29) q1)
                    have NZ := Lib.hid (show wcA.heap.size ≤ q1.heap.size from BB.out.size)
                    have NE := Lib.hid (show _ ≠ _ from (Nat.ne_of_gt KB.out.lt))
                    have NA := Lib.hid NZ.out
                    have BB := Lib.hid (BB.out.trans (hb.mono BB.out.size))
                    have YL := Lib.hid (YL.out.below hb)
                    have KB := Lib.hid (KB.out.below hb)
                    have SN := HSL.out _ BB.out
                    go_simp
                    refine hK.out _ _ (fun _ => SN) ?_
                    clear hK K SN hb NZ
                    generalize hG : World.alloc q1 _ = q11 at BB YL KB KA ⊢
                    clear hG
                    try simp only [Act.put, List.setIfInBounds_toArray, List.set_cons_zero, List.set_cons_succ]
                    refine AnyBut.one (i := 5) (o := ⟨some 67, _, _, _, _, none⟩) (by kernel_rfl) rfl (fun K hK => ?_)
                    go_simp
                    refine (ownI_any u ds q11 YL.out FL.out).mono ?_
                    rintro ev q12 ⟨y, dy, rfl, hy, hr, hs⟩
                    have RY := Lib.hid hr
                    have YY := Lib.hid (hy.mono BB.out.size)
                    have BB := Lib.hid (BB.out.trans (hs.mono BB.out.size))
                    have KB := Lib.hid (KB.out.below hs)
                    have KA := Lib.hid (KA.out.below hs)
                    have SN := HSL.out _ BB.out
                    clear hy hr hs YL
                    refine hK.out _ _ (fun _ => SN) ?_
                    clear hK K SN
                    try simp only [Act.put, List.setIfInBounds_toArray, List.set_cons_zero, List.set_cons_succ]
                    refine AnyBut.one (i := 6) (o := ⟨some 68, _, _, _, _, none⟩) (by kernel_rfl) rfl (fun K hK => ?_)
                    have PP := ChO.of_blk (base := wcA.heap.size) (ss := [(⟨11, ⟨#[]⟩, ⟨#[]⟩, false, 0, ⟨#[]⟩, ⟨#[]⟩, 0, 0, 0, ⟨#[]⟩, 0, 0⟩ : Sc), ⟨10, ⟨#[]⟩, ⟨#[]⟩, false, 0, ⟨#[]⟩, ⟨#[]⟩, 0, page, hl, hk4, 0, 0⟩]) NB.out KB.out (show 2 ≤ maxLen by decide) SC.out
                    refine step_appS lRec 22 Try.underlying22 lRec_known (by decide) (by decide) rfl (.tmp 65) (.tmp 67) rfl wcA.heap.size rfl rfl PP.own YY.out.own.sv (by have := (few_read FW.out RY.out).1; simp; omega) BB.out.size ?_
                    intro v7 q13 ho hg
                    have QQ := Lib.hid (PP.append YY.out (Nat.le_refl _) ho hg)
                    have KA := Lib.hid (HB.grown KA.out hg (fun h => NE.out (Option.some.inj h)))
                    have BB := Lib.hid (BB.out.grown hg BB.out.size (fun k hk => (World.ownsRow.lt PP.own k hk).1))
                    have SN := HSL.out _ BB.out
                    clear PP ho hg KB YY NB NE
                    refine hK.out _ _ (fun _ => SN) ?_
                    clear hK K SN
                    try simp only [Act.put, List.setIfInBounds_toArray, List.set_cons_zero, List.set_cons_succ]
                    refine AnyBut.one (i := 7) (o := ⟨some 69, _, _, _, _, none⟩) (by kernel_rfl) rfl (fun K hK => ?_)
                    have RQ := (show readC (([(⟨11, ⟨#[]⟩, ⟨#[]⟩, false, 0, ⟨#[]⟩, ⟨#[]⟩, 0, 0, 0, ⟨#[]⟩, 0, 0⟩ : Sc), ⟨10, ⟨#[]⟩, ⟨#[]⟩, false, 0, ⟨#[]⟩, ⟨#[]⟩, 0, page, hl, hk4, 0, 0⟩].map fun s => (⟨s, none, 0, none, 0, [], []⟩ : RcD)) ++ dy) = dropI11 :: holdI10 page hl hk4 :: readC ds by (rw [readC_app, RY.out]; rfl))
                    have e1 := (show (([(⟨11, ⟨#[]⟩, ⟨#[]⟩, false, 0, ⟨#[]⟩, ⟨#[]⟩, 0, 0, 0, ⟨#[]⟩, 0, 0⟩ : Sc), ⟨10, ⟨#[]⟩, ⟨#[]⟩, false, 0, ⟨#[]⟩, ⟨#[]⟩, 0, page, hl, hk4, 0, 0⟩].map fun s => (⟨s, none, 0, none, 0, [], []⟩ : RcD)) ++ dy).length ≤ 100 by (have := (few_read FW.out RY.out).1; simp; omega))
                    have e2 := (show ((([(⟨11, ⟨#[]⟩, ⟨#[]⟩, false, 0, ⟨#[]⟩, ⟨#[]⟩, 0, 0, 0, ⟨#[]⟩, 0, 0⟩ : Sc), ⟨10, ⟨#[]⟩, ⟨#[]⟩, false, 0, ⟨#[]⟩, ⟨#[]⟩, 0, page, hl, hk4, 0, 0⟩].map fun s => (⟨s, none, 0, none, 0, [], []⟩ : RcD)) ++ dy).map fun d => d.ents.length).sum ≤ 1000 by (have := (few_read FW.out RY.out).2; simp; omega))
                    go_simp
                    refine (C.fold _ _ _ q13 QQ.out e1 e2).mono ?_
                    rintro ev q14 ⟨en2, rfl, hen, hsz, hs⟩
                    rw [RQ, CY.out.2] at hen hsz
                    rw [RQ, CY.out.1, CY.out.2, errV_zero rfl]
                    obtain ⟨za, zc, rfl, -, -⟩ := hen.lenN HM2.out
                    unfold ivVal
                    have EE := Lib.hid (hen.mono BB.out.size)
                    have ZZ := Lib.hid hsz
                    have BB := Lib.hid (BB.out.trans (hs.mono BB.out.size))
                    have KA := Lib.hid (KA.out.below hs)
                    have SN := HSL.out _ BB.out
                    clear hen hsz hs RQ e1 e2 QQ
                    refine hK.out _ _ (fun _ => SN) ?_
                    clear hK K SN
                    have SX := Lib.hid (HSL.out _ BB.out)
                    refine AnyBut.take (i := 8) (oi := ⟨some 61, _, _, _, _, none⟩) (v := ?vBx48) rfl (by kernel_rfl) (by kernel_rfl) (by kernel_rfl) (by kernel_rfl) (fun _ _ _ h => h) (Or.inl ⟨by rfl, ?hyBx48⟩) SX.out ?restBx48
                    case hyBx48 => (intro w hSw; go_simp; try (with_reducible rfl))
                    simp only [Act.put, List.setIfInBounds_toArray, List.set_cons_zero, List.set_cons_succ]
                    refine AnyBut.take (i := 9) (oi := ⟨some 70, _, _, _, _, none⟩) (v := ?vBx49) rfl (by kernel_rfl) (by kernel_rfl) (by kernel_rfl) (by kernel_rfl) (fun _ _ _ h => h) (Or.inl ⟨by rfl, ?hyBx49⟩) SX.out ?restBx49
                    case hyBx49 => (intro w hSw; go_simp; try (with_reducible rfl))
                    simp only [Act.put, List.setIfInBounds_toArray, List.set_cons_zero, List.set_cons_succ]
                    refine AnyBut.take (i := 10) (oi := ⟨some 71, _, _, _, _, none⟩) (v := ?vBx410) rfl (by kernel_rfl) (by kernel_rfl) (by kernel_rfl) (by kernel_rfl) (fun _ _ _ h => h) (Or.inl ⟨by rfl, ?hyBx410⟩) SX.out ?restBx410
                    case hyBx410 => (intro w hSw; go_simp; try (with_reducible rfl))
                    simp only [Act.put, List.setIfInBounds_toArray, List.set_cons_zero, List.set_cons_succ]
                    clear SX
                    have KS := KA.out.sets (ivCells dw (.slice za m2 zc)) rfl
                    have ES := EE.out.kept (Kept.setCells (ivCells dw (.slice za m2 zc)) 0 _ (Kept.refl (fun x => x = _) _)) (EE.out.apart KA.out (show lEnt.ty ≠ 29 by decide))
                    have BS := below_setCells NA.out (ivCells dw (.slice za m2 zc)) 0 _ BB.out
                    have SN := HSL.out _ BS
                    refine AnyBut.one (i := 12) (o := ⟨none, _, _, _, _, none⟩) (by kernel_rfl) rfl (fun K hK => ?_)
                    rw [if_pos (by rfl)]
                    refine wp_store_mid 29 (.tmp 13) (.tmp 70) rfl _ 0 (ivCells dw (.slice za m2 zc)).toArray rfl rfl (KA.out.there 9 (Nat.le_refl _)) ivInfoS (iv_one _ _ _ _) ?_
                    refine hK.out _ _ (fun _ => SN) ?_
                    clear hK K
                    try simp only [Act.put]
                    refine AnyBut.one (i := 13) (o := ⟨some 14, _, _, _, _, none⟩) (by kernel_rfl) rfl (fun K hK => ?_)
                    go_simp
                    refine hK.out _ _ (fun h => absurd rfl h) ?_
                    clear hK K
                    try simp only [Act.put, List.setIfInBounds_toArray, List.set_cons_zero, List.set_cons_succ]
                    refine AnyBut.done (by kernel_rfl) ?_ _
                    go_wp2
                    go_meet
                    case rel => exact ⟨_, za, zc, rfl, rfl, HB.vb KS, ES, ZZ.out, BS⟩
                · go_simp
                  refine (ownI_any u ds q0 YL.out FL.out).mono ?_
                  rintro ev q15 ⟨y, dy, rfl, hy, hr, hs⟩
                  have RY := Lib.hid hr
                  have YY := Lib.hid (hy.mono BB.out.size)
                  have BB := Lib.hid (BB.out.trans (hs.mono BB.out.size))
                  have SN := HSL.out _ BB.out
                  clear hy hr hs YL
                  refine hK.out _ _ (fun _ => SN) ?_
                  clear hK K SN
                  try simp only [Act.put, List.setIfInBounds_toArray, List.set_cons_zero, List.set_cons_succ]
                  refine AnyBut.two (i := 3) (j := 11) (o := ⟨some 65, _, _, _, _, none⟩) (u := ⟨some 13, _, _, _, _, none⟩) (by kernel_rfl) rfl rfl (fun K hK => ?_) (fun K hK => ?_)
                  · have hb := alloc_below0 q15 (.cells #[.int .i64 11, .string ⟨#[]⟩, .string ⟨#[]⟩, .bool false, .int .i64 0, .slice none 0 0, .slice none 0 0, .string ⟨#[]⟩, .string ⟨#[]⟩, .int .i64 0, .int .i64 0, .int .i64 0, .string ⟨#[]⟩, .int .i64 0, .int .i64 0, .int .i64 10, .string ⟨#[]⟩, .string ⟨#[]⟩, .bool false, .int .i64 0, .slice none 0 0, .slice none 0 0, .string ⟨#[]⟩, .string ⟨#[]⟩, .int .i64 0, .int .i64 page, .int .i64 hl, .string hk4, .int .i64 0, .int .i64 0] 46)
                    have KB := Lib.hid (HB.new (.cells #[.int .i64 11, .string ⟨#[]⟩, .string ⟨#[]⟩, .bool false, .int .i64 0, .slice none 0 0, .slice none 0 0, .string ⟨#[]⟩, .string ⟨#[]⟩, .int .i64 0, .int .i64 0, .int .i64 0, .string ⟨#[]⟩, .int .i64 0, .int .i64 0, .int .i64 10, .string ⟨#[]⟩, .string ⟨#[]⟩, .bool false, .int .i64 0, .slice none 0 0, .slice none 0 0, .string ⟨#[]⟩, .string ⟨#[]⟩, .int .i64 0, .int .i64 page, .int .i64 hl, .string hk4, .int .i64 0, .int .i64 0] 46) q15)
                    have NZ := Lib.hid (show wcA.heap.size ≤ q15.heap.size from BB.out.size)
                    have NB := Lib.hid NZ.out
                    have BB := Lib.hid (BB.out.trans (hb.mono BB.out.size))
                    have YY := Lib.hid (YY.out.below hb)
                    have SN := HSL.out _ BB.out
                    go_simp
                    refine hK.out _ _ (fun _ => SN) ?_
                    clear hK K SN hb NZ
                    generalize hG : World.alloc q15 _ = q16 at BB KB YY ⊢
                    clear hG
                    try simp only [Act.put, List.setIfInBounds_toArray, List.set_cons_zero, List.set_cons_succ]
                    refine AnyBut.two (i := 6) (j := 11) (o := ⟨some 68, _, _, _, _, none⟩) (u := ⟨some 13, _, _, _, _, none⟩) (by kernel_rfl) rfl rfl (fun K hK => ?_) (fun K hK => ?_)
                    · have PP := ChO.of_blk (base := wcA.heap.size) (ss := [(⟨11, ⟨#[]⟩, ⟨#[]⟩, false, 0, ⟨#[]⟩, ⟨#[]⟩, 0, 0, 0, ⟨#[]⟩, 0, 0⟩ : Sc), ⟨10, ⟨#[]⟩, ⟨#[]⟩, false, 0, ⟨#[]⟩, ⟨#[]⟩, 0, page, hl, hk4, 0, 0⟩]) NB.out KB.out (show 2 ≤ maxLen by decide) SC.out
                      refine step_appS lRec 22 Try.underlying22 lRec_known (by decide) (by decide) rfl (.tmp 65) (.tmp 67) rfl wcA.heap.size rfl rfl PP.own YY.out.own.sv (by have := (few_read FW.out RY.out).1; simp; omega) BB.out.size ?_
                      intro v7 q17 ho hg
                      have QQ := Lib.hid (PP.append YY.out (Nat.le_refl _) ho hg)
                      have BB := Lib.hid (BB.out.grown hg BB.out.size (fun k hk => (World.ownsRow.lt PP.own k hk).1))
                      have SN := HSL.out _ BB.out
                      clear PP ho hg KB YY NB
                      refine hK.out _ _ (fun _ => SN) ?_
                      clear hK K SN
                      try simp only [Act.put, List.setIfInBounds_toArray, List.set_cons_zero, List.set_cons_succ]
                      refine AnyBut.two (i := 7) (j := 11) (o := ⟨some 69, _, _, _, _, none⟩) (u := ⟨some 13, _, _, _, _, none⟩) (by kernel_rfl) rfl rfl (fun K hK => ?_) (fun K hK => ?_)
                      · have RQ := (show readC (([(⟨11, ⟨#[]⟩, ⟨#[]⟩, false, 0, ⟨#[]⟩, ⟨#[]⟩, 0, 0, 0, ⟨#[]⟩, 0, 0⟩ : Sc), ⟨10, ⟨#[]⟩, ⟨#[]⟩, false, 0, ⟨#[]⟩, ⟨#[]⟩, 0, page, hl, hk4, 0, 0⟩].map fun s => (⟨s, none, 0, none, 0, [], []⟩ : RcD)) ++ dy) = dropI11 :: holdI10 page hl hk4 :: readC ds by (rw [readC_app, RY.out]; rfl))
                        have e1 := (show (([(⟨11, ⟨#[]⟩, ⟨#[]⟩, false, 0, ⟨#[]⟩, ⟨#[]⟩, 0, 0, 0, ⟨#[]⟩, 0, 0⟩ : Sc), ⟨10, ⟨#[]⟩, ⟨#[]⟩, false, 0, ⟨#[]⟩, ⟨#[]⟩, 0, page, hl, hk4, 0, 0⟩].map fun s => (⟨s, none, 0, none, 0, [], []⟩ : RcD)) ++ dy).length ≤ 100 by (have := (few_read FW.out RY.out).1; simp; omega))
                        have e2 := (show ((([(⟨11, ⟨#[]⟩, ⟨#[]⟩, false, 0, ⟨#[]⟩, ⟨#[]⟩, 0, 0, 0, ⟨#[]⟩, 0, 0⟩ : Sc), ⟨10, ⟨#[]⟩, ⟨#[]⟩, false, 0, ⟨#[]⟩, ⟨#[]⟩, 0, page, hl, hk4, 0, 0⟩].map fun s => (⟨s, none, 0, none, 0, [], []⟩ : RcD)) ++ dy).map fun d => d.ents.length).sum ≤ 1000 by (have := (few_read FW.out RY.out).2; simp; omega))
                        go_simp
                        refine (C.fold _ _ _ q17 QQ.out e1 e2).mono ?_
                        rintro ev q18 ⟨en2, rfl, hen, hsz, hs⟩
                        rw [RQ, CY.out.2] at hen hsz
                        rw [RQ, CY.out.1, CY.out.2, errV_zero rfl]
                        obtain ⟨za, zc, rfl, -, -⟩ := hen.lenN HM2.out
                        unfold ivVal
                        have EE := Lib.hid (hen.mono BB.out.size)
                        have ZZ := Lib.hid hsz
                        have BB := Lib.hid (BB.out.trans (hs.mono BB.out.size))
                        have SN := HSL.out _ BB.out
                        clear hen hsz hs RQ e1 e2 QQ
                        refine hK.out _ _ (fun _ => SN) ?_
                        clear hK K SN
                        have SX := Lib.hid (HSL.out _ BB.out)
                        refine AnyBut.take (i := 8) (oi := ⟨some 61, _, _, _, _, none⟩) (v := ?vBx58) rfl (by kernel_rfl) (by kernel_rfl) (by kernel_rfl) (by kernel_rfl) (fun _ _ _ h => h) (Or.inl ⟨by rfl, ?hyBx58⟩) SX.out ?restBx58
                        case hyBx58 => (intro w hSw; go_simp; try (with_reducible rfl))
                        simp only [Act.put, List.setIfInBounds_toArray, List.set_cons_zero, List.set_cons_succ]
                        refine AnyBut.take (i := 9) (oi := ⟨some 70, _, _, _, _, none⟩) (v := ?vBx59) rfl (by kernel_rfl) (by kernel_rfl) (by kernel_rfl) (by kernel_rfl) (fun _ _ _ h => h) (Or.inl ⟨by rfl, ?hyBx59⟩) SX.out ?restBx59
                        case hyBx59 => (intro w hSw; go_simp; try (with_reducible rfl))
                        simp only [Act.put, List.setIfInBounds_toArray, List.set_cons_zero, List.set_cons_succ]
                        refine AnyBut.take (i := 10) (oi := ⟨some 71, _, _, _, _, none⟩) (v := ?vBx510) rfl (by kernel_rfl) (by kernel_rfl) (by kernel_rfl) (by kernel_rfl) (fun _ _ _ h => h) (Or.inl ⟨by rfl, ?hyBx510⟩) SX.out ?restBx510
                        case hyBx510 => (intro w hSw; go_simp; try (with_reducible rfl))
                        simp only [Act.put, List.setIfInBounds_toArray, List.set_cons_zero, List.set_cons_succ]
                        clear SX
                        refine AnyBut.one (i := 11) (o := ⟨some 13, _, _, _, _, none⟩) (by kernel_rfl) rfl (fun K hK => ?_)
                        have hb := alloc_below0 q18 (.cells #[.string ⟨#[]⟩, .string ⟨#[]⟩, .bool false, .int .i64 0, .slice none 0 0, .bool false, .int .i64 0, .int .i64 0, .string ⟨#[]⟩] 29)
                        have KA := Lib.hid (HB.new (.cells #[.string ⟨#[]⟩, .string ⟨#[]⟩, .bool false, .int .i64 0, .slice none 0 0, .bool false, .int .i64 0, .int .i64 0, .string ⟨#[]⟩] 29) q18)
                        have NZ := Lib.hid (show wcA.heap.size ≤ q18.heap.size from BB.out.size)
                        have NA := Lib.hid NZ.out
                        have BB := Lib.hid (BB.out.trans (hb.mono BB.out.size))
                        have EE := Lib.hid (EE.out.below hb)
                        have SN := HSL.out _ BB.out
                        go_simp
                        refine hK.out _ _ (fun _ => SN) ?_
                        clear hK K SN hb NZ
                        generalize hG : World.alloc q18 _ = q19 at BB KA EE ⊢
                        clear hG
                        try simp only [Act.put, List.setIfInBounds_toArray, List.set_cons_zero, List.set_cons_succ]
                        have KS := KA.out.sets (ivCells dw (.slice za m2 zc)) rfl
                        have ES := EE.out.kept (Kept.setCells (ivCells dw (.slice za m2 zc)) 0 _ (Kept.refl (fun x => x = _) _)) (EE.out.apart KA.out (show lEnt.ty ≠ 29 by decide))
                        have BS := below_setCells NA.out (ivCells dw (.slice za m2 zc)) 0 _ BB.out
                        have SN := HSL.out _ BS
                        refine AnyBut.one (i := 12) (o := ⟨none, _, _, _, _, none⟩) (by kernel_rfl) rfl (fun K hK => ?_)
                        rw [if_pos (by rfl)]
                        refine wp_store_mid 29 (.tmp 13) (.tmp 70) rfl _ 0 (ivCells dw (.slice za m2 zc)).toArray rfl rfl (KA.out.there 9 (Nat.le_refl _)) ivInfoS (iv_one _ _ _ _) ?_
                        refine hK.out _ _ (fun _ => SN) ?_
                        clear hK K
                        try simp only [Act.put]
                        refine AnyBut.one (i := 13) (o := ⟨some 14, _, _, _, _, none⟩) (by kernel_rfl) rfl (fun K hK => ?_)
                        go_simp
                        refine hK.out _ _ (fun h => absurd rfl h) ?_
                        clear hK K
                        try simp only [Act.put, List.setIfInBounds_toArray, List.set_cons_zero, List.set_cons_succ]
                        refine AnyBut.done (by kernel_rfl) ?_ _
                        go_wp2
                        go_meet
                        case rel => exact ⟨_, za, zc, rfl, rfl, HB.vb KS, ES, ZZ.out, BS⟩
                      · have hb := alloc_below0 q17 (.cells #[.string ⟨#[]⟩, .string ⟨#[]⟩, .bool false, .int .i64 0, .slice none 0 0, .bool false, .int .i64 0, .int .i64 0, .string ⟨#[]⟩] 29)
                        have KA := Lib.hid (HB.new (.cells #[.string ⟨#[]⟩, .string ⟨#[]⟩, .bool false, .int .i64 0, .slice none 0 0, .bool false, .int .i64 0, .int .i64 0, .string ⟨#[]⟩] 29) q17)
                        have NZ := Lib.hid (show wcA.heap.size ≤ q17.heap.size from BB.out.size)
                        have NA := Lib.hid NZ.out
                        have BB := Lib.hid (BB.out.trans (hb.mono BB.out.size))
                        have QQ := Lib.hid (QQ.out.below hb)
                        have SN := HSL.out _ BB.out
                        go_simp
                        refine hK.out _ _ (fun _ => SN) ?_
                        clear hK K SN hb NZ
                        generalize hG : World.alloc q17 _ = q20 at BB KA QQ ⊢
                        clear hG
                        try simp only [Act.put, List.setIfInBounds_toArray, List.set_cons_zero, List.set_cons_succ]
                        refine AnyBut.one (i := 7) (o := ⟨some 69, _, _, _, _, none⟩) (by kernel_rfl) rfl (fun K hK => ?_)
                        have RQ := (show readC (([(⟨11, ⟨#[]⟩, ⟨#[]⟩, false, 0, ⟨#[]⟩, ⟨#[]⟩, 0, 0, 0, ⟨#[]⟩, 0, 0⟩ : Sc), ⟨10, ⟨#[]⟩, ⟨#[]⟩, false, 0, ⟨#[]⟩, ⟨#[]⟩, 0, page, hl, hk4, 0, 0⟩].map fun s => (⟨s, none, 0, none, 0, [], []⟩ : RcD)) ++ dy) = dropI11 :: holdI10 page hl hk4 :: readC ds by (rw [readC_app, RY.out]; rfl))
                        have e1 := (show (([(⟨11, ⟨#[]⟩, ⟨#[]⟩, false, 0, ⟨#[]⟩, ⟨#[]⟩, 0, 0, 0, ⟨#[]⟩, 0, 0⟩ : Sc), ⟨10, ⟨#[]⟩, ⟨#[]⟩, false, 0, ⟨#[]⟩, ⟨#[]⟩, 0, page, hl, hk4, 0, 0⟩].map fun s => (⟨s, none, 0, none, 0, [], []⟩ : RcD)) ++ dy).length ≤ 100 by (have := (few_read FW.out RY.out).1; simp; omega))
                        have e2 := (show ((([(⟨11, ⟨#[]⟩, ⟨#[]⟩, false, 0, ⟨#[]⟩, ⟨#[]⟩, 0, 0, 0, ⟨#[]⟩, 0, 0⟩ : Sc), ⟨10, ⟨#[]⟩, ⟨#[]⟩, false, 0, ⟨#[]⟩, ⟨#[]⟩, 0, page, hl, hk4, 0, 0⟩].map fun s => (⟨s, none, 0, none, 0, [], []⟩ : RcD)) ++ dy).map fun d => d.ents.length).sum ≤ 1000 by (have := (few_read FW.out RY.out).2; simp; omega))
                        go_simp
                        refine (C.fold _ _ _ q20 QQ.out e1 e2).mono ?_
                        rintro ev q21 ⟨en2, rfl, hen, hsz, hs⟩
                        rw [RQ, CY.out.2] at hen hsz
                        rw [RQ, CY.out.1, CY.out.2, errV_zero rfl]
                        obtain ⟨za, zc, rfl, -, -⟩ := hen.lenN HM2.out
                        unfold ivVal
                        have EE := Lib.hid (hen.mono BB.out.size)
                        have ZZ := Lib.hid hsz
                        have BB := Lib.hid (BB.out.trans (hs.mono BB.out.size))
                        have KA := Lib.hid (KA.out.below hs)
                        have SN := HSL.out _ BB.out
                        clear hen hsz hs RQ e1 e2 QQ
                        refine hK.out _ _ (fun _ => SN) ?_
                        clear hK K SN
                        have SX := Lib.hid (HSL.out _ BB.out)
                        refine AnyBut.take (i := 8) (oi := ⟨some 61, _, _, _, _, none⟩) (v := ?vBx68) rfl (by kernel_rfl) (by kernel_rfl) (by kernel_rfl) (by kernel_rfl) (fun _ _ _ h => h) (Or.inl ⟨by rfl, ?hyBx68⟩) SX.out ?restBx68
                        case hyBx68 => (intro w hSw; go_simp; try (with_reducible rfl))
                        simp only [Act.put, List.setIfInBounds_toArray, List.set_cons_zero, List.set_cons_succ]
                        refine AnyBut.take (i := 9) (oi := ⟨some 70, _, _, _, _, none⟩) (v := ?vBx69) rfl (by kernel_rfl) (by kernel_rfl) (by kernel_rfl) (by kernel_rfl) (fun _ _ _ h => h) (Or.inl ⟨by rfl, ?hyBx69⟩) SX.out ?restBx69
                        case hyBx69 => (intro w hSw; go_simp; try (with_reducible rfl))
                        simp only [Act.put, List.setIfInBounds_toArray, List.set_cons_zero, List.set_cons_succ]
                        refine AnyBut.take (i := 10) (oi := ⟨some 71, _, _, _, _, none⟩) (v := ?vBx610) rfl (by kernel_rfl) (by kernel_rfl) (by kernel_rfl) (by kernel_rfl) (fun _ _ _ h => h) (Or.inl ⟨by rfl, ?hyBx610⟩) SX.out ?restBx610
                        case hyBx610 => (intro w hSw; go_simp; try (with_reducible rfl))
                        simp only [Act.put, List.setIfInBounds_toArray, List.set_cons_zero, List.set_cons_succ]
                        clear SX
                        have KS := KA.out.sets (ivCells dw (.slice za m2 zc)) rfl
                        have ES := EE.out.kept (Kept.setCells (ivCells dw (.slice za m2 zc)) 0 _ (Kept.refl (fun x => x = _) _)) (EE.out.apart KA.out (show lEnt.ty ≠ 29 by decide))
                        have BS := below_setCells NA.out (ivCells dw (.slice za m2 zc)) 0 _ BB.out
                        have SN := HSL.out _ BS
                        refine AnyBut.one (i := 12) (o := ⟨none, _, _, _, _, none⟩) (by kernel_rfl) rfl (fun K hK => ?_)
                        rw [if_pos (by rfl)]
                        refine wp_store_mid 29 (.tmp 13) (.tmp 70) rfl _ 0 (ivCells dw (.slice za m2 zc)).toArray rfl rfl (KA.out.there 9 (Nat.le_refl _)) ivInfoS (iv_one _ _ _ _) ?_
                        refine hK.out _ _ (fun _ => SN) ?_
                        clear hK K
                        try simp only [Act.put]
                        refine AnyBut.one (i := 13) (o := ⟨some 14, _, _, _, _, none⟩) (by kernel_rfl) rfl (fun K hK => ?_)
                        go_simp
                        refine hK.out _ _ (fun h => absurd rfl h) ?_
                        clear hK K
                        try simp only [Act.put, List.setIfInBounds_toArray, List.set_cons_zero, List.set_cons_succ]
                        refine AnyBut.done (by kernel_rfl) ?_ _
                        go_wp2
                        go_meet
                        case rel => exact ⟨_, za, zc, rfl, rfl, HB.vb KS, ES, ZZ.out, BS⟩
                    · have hb := alloc_below0 q16 (.cells #[.string ⟨#[]⟩, .string ⟨#[]⟩, .bool false, .int .i64 0, .slice none 0 0, .bool false, .int .i64 0, .int .i64 0, .string ⟨#[]⟩] 29)
                      have KA := Lib.hid (HB.new (.cells #[.string ⟨#[]⟩, .string ⟨#[]⟩, .bool false, .int .i64 0, .slice none 0 0, .bool false, .int .i64 0, .int .i64 0, .string ⟨#[]⟩] 29) q16)
                      have NZ := Lib.hid (show wcA.heap.size ≤ q16.heap.size from BB.out.size)
                      have NE := Lib.hid (show _ ≠ _ from (Nat.ne_of_gt KB.out.lt))
                      have NA := Lib.hid NZ.out
                      have BB := Lib.hid (BB.out.trans (hb.mono BB.out.size))
                      have KB := Lib.hid (KB.out.below hb)
                      have YY := Lib.hid (YY.out.below hb)
                      have SN := HSL.out _ BB.out
                      go_simp
                      refine hK.out _ _ (fun _ => SN) ?_
                      clear hK K SN hb NZ
                      generalize hG : World.alloc q16 _ = q22 at BB KB YY KA ⊢
                      clear hG
                      try simp only [Act.put, List.setIfInBounds_toArray, List.set_cons_zero, List.set_cons_succ]
                      refine AnyBut.one (i := 6) (o := ⟨some 68, _, _, _, _, none⟩) (by kernel_rfl) rfl (fun K hK => ?_)
                      have PP := ChO.of_blk (base := wcA.heap.size) (ss := [(⟨11, ⟨#[]⟩, ⟨#[]⟩, false, 0, ⟨#[]⟩, ⟨#[]⟩, 0, 0, 0, ⟨#[]⟩, 0, 0⟩ : Sc), ⟨10, ⟨#[]⟩, ⟨#[]⟩, false, 0, ⟨#[]⟩, ⟨#[]⟩, 0, page, hl, hk4, 0, 0⟩]) NB.out KB.out (show 2 ≤ maxLen by decide) SC.out
                      refine step_appS lRec 22 Try.underlying22 lRec_known (by decide) (by decide) rfl (.tmp 65) (.tmp 67) rfl wcA.heap.size rfl rfl PP.own YY.out.own.sv (by have := (few_read FW.out RY.out).1; simp; omega) BB.out.size ?_
                      intro v7 q23 ho hg
                      have QQ := Lib.hid (PP.append YY.out (Nat.le_refl _) ho hg)
                      have KA := Lib.hid (HB.grown KA.out hg (fun h => NE.out (Option.some.inj h)))
                      have BB := Lib.hid (BB.out.grown hg BB.out.size (fun k hk => (World.ownsRow.lt PP.own k hk).1))
                      have SN := HSL.out _ BB.out
                      clear PP ho hg KB YY NB NE
                      refine hK.out _ _ (fun _ => SN) ?_
                      clear hK K SN
                      try simp only [Act.put, List.setIfInBounds_toArray, List.set_cons_zero, List.set_cons_succ]
                      refine AnyBut.one (i := 7) (o := ⟨some 69, _, _, _, _, none⟩) (by kernel_rfl) rfl (fun K hK => ?_)
                      have RQ := (show readC (([(⟨11, ⟨#[]⟩, ⟨#[]⟩, false, 0, ⟨#[]⟩, ⟨#[]⟩, 0, 0, 0, ⟨#[]⟩, 0, 0⟩ : Sc), ⟨10, ⟨#[]⟩, ⟨#[]⟩, false, 0, ⟨#[]⟩, ⟨#[]⟩, 0, page, hl, hk4, 0, 0⟩].map fun s => (⟨s, none, 0, none, 0, [], []⟩ : RcD)) ++ dy) = dropI11 :: holdI10 page hl hk4 :: readC ds by (rw [readC_app, RY.out]; rfl))
                      have e1 := (show (([(⟨11, ⟨#[]⟩, ⟨#[]⟩, false, 0, ⟨#[]⟩, ⟨#[]⟩, 0, 0, 0, ⟨#[]⟩, 0, 0⟩ : Sc), ⟨10, ⟨#[]⟩, ⟨#[]⟩, false, 0, ⟨#[]⟩, ⟨#[]⟩, 0, page, hl, hk4, 0, 0⟩].map fun s => (⟨s, none, 0, none, 0, [], []⟩ : RcD)) ++ dy).length ≤ 100 by (have := (few_read FW.out RY.out).1; simp; omega))
                      have e2 := (show ((([(⟨11, ⟨#[]⟩, ⟨#[]⟩, false, 0, ⟨#[]⟩, ⟨#[]⟩, 0, 0, 0, ⟨#[]⟩, 0, 0⟩ : Sc), ⟨10, ⟨#[]⟩, ⟨#[]⟩, false, 0, ⟨#[]⟩, ⟨#[]⟩, 0, page, hl, hk4, 0, 0⟩].map fun s => (⟨s, none, 0, none, 0, [], []⟩ : RcD)) ++ dy).map fun d => d.ents.length).sum ≤ 1000 by (have := (few_read FW.out RY.out).2; simp; omega))
                      go_simp
                      refine (C.fold _ _ _ q23 QQ.out e1 e2).mono ?_
                      rintro ev q24 ⟨en2, rfl, hen, hsz, hs⟩
                      rw [RQ, CY.out.2] at hen hsz
                      rw [RQ, CY.out.1, CY.out.2, errV_zero rfl]
                      obtain ⟨za, zc, rfl, -, -⟩ := hen.lenN HM2.out
                      unfold ivVal
                      have EE := Lib.hid (hen.mono BB.out.size)
                      have ZZ := Lib.hid hsz
                      have BB := Lib.hid (BB.out.trans (hs.mono BB.out.size))
                      have KA := Lib.hid (KA.out.below hs)
                      have SN := HSL.out _ BB.out
                      clear hen hsz hs RQ e1 e2 QQ
                      refine hK.out _ _ (fun _ => SN) ?_
                      clear hK K SN
                      have SX := Lib.hid (HSL.out _ BB.out)
                      refine AnyBut.take (i := 8) (oi := ⟨some 61, _, _, _, _, none⟩) (v := ?vBx78) rfl (by kernel_rfl) (by kernel_rfl) (by kernel_rfl) (by kernel_rfl) (fun _ _ _ h => h) (Or.inl ⟨by rfl, ?hyBx78⟩) SX.out ?restBx78
                      case hyBx78 => (intro w hSw; go_simp; try (with_reducible rfl))
                      simp only [Act.put, List.setIfInBounds_toArray, List.set_cons_zero, List.set_cons_succ]
                      refine AnyBut.take (i := 9) (oi := ⟨some 70, _, _, _, _, none⟩) (v := ?vBx79) rfl (by kernel_rfl) (by kernel_rfl) (by kernel_rfl) (by kernel_rfl) (fun _ _ _ h => h) (Or.inl ⟨by rfl, ?hyBx79⟩) SX.out ?restBx79
                      case hyBx79 => (intro w hSw; go_simp; try (with_reducible rfl))
                      simp only [Act.put, List.setIfInBounds_toArray, List.set_cons_zero, List.set_cons_succ]
                      refine AnyBut.take (i := 10) (oi := ⟨some 71, _, _, _, _, none⟩) (v := ?vBx710) rfl (by kernel_rfl) (by kernel_rfl) (by kernel_rfl) (by kernel_rfl) (fun _ _ _ h => h) (Or.inl ⟨by rfl, ?hyBx710⟩) SX.out ?restBx710
                      case hyBx710 => (intro w hSw; go_simp; try (with_reducible rfl))
                      simp only [Act.put, List.setIfInBounds_toArray, List.set_cons_zero, List.set_cons_succ]
                      clear SX
                      have KS := KA.out.sets (ivCells dw (.slice za m2 zc)) rfl
                      have ES := EE.out.kept (Kept.setCells (ivCells dw (.slice za m2 zc)) 0 _ (Kept.refl (fun x => x = _) _)) (EE.out.apart KA.out (show lEnt.ty ≠ 29 by decide))
                      have BS := below_setCells NA.out (ivCells dw (.slice za m2 zc)) 0 _ BB.out
                      have SN := HSL.out _ BS
                      refine AnyBut.one (i := 12) (o := ⟨none, _, _, _, _, none⟩) (by kernel_rfl) rfl (fun K hK => ?_)
                      rw [if_pos (by rfl)]
                      refine wp_store_mid 29 (.tmp 13) (.tmp 70) rfl _ 0 (ivCells dw (.slice za m2 zc)).toArray rfl rfl (KA.out.there 9 (Nat.le_refl _)) ivInfoS (iv_one _ _ _ _) ?_
                      refine hK.out _ _ (fun _ => SN) ?_
                      clear hK K
                      try simp only [Act.put]
                      refine AnyBut.one (i := 13) (o := ⟨some 14, _, _, _, _, none⟩) (by kernel_rfl) rfl (fun K hK => ?_)
                      go_simp
                      refine hK.out _ _ (fun h => absurd rfl h) ?_
                      clear hK K
                      try simp only [Act.put, List.setIfInBounds_toArray, List.set_cons_zero, List.set_cons_succ]
                      refine AnyBut.done (by kernel_rfl) ?_ _
                      go_wp2
                      go_meet
                      case rel => exact ⟨_, za, zc, rfl, rfl, HB.vb KS, ES, ZZ.out, BS⟩
                  · have hb := alloc_below0 q15 (.cells #[.string ⟨#[]⟩, .string ⟨#[]⟩, .bool false, .int .i64 0, .slice none 0 0, .bool false, .int .i64 0, .int .i64 0, .string ⟨#[]⟩] 29)
                    have KA := Lib.hid (HB.new (.cells #[.string ⟨#[]⟩, .string ⟨#[]⟩, .bool false, .int .i64 0, .slice none 0 0, .bool false, .int .i64 0, .int .i64 0, .string ⟨#[]⟩] 29) q15)
                    have NZ := Lib.hid (show wcA.heap.size ≤ q15.heap.size from BB.out.size)
                    have NA := Lib.hid NZ.out
                    have BB := Lib.hid (BB.out.trans (hb.mono BB.out.size))
                    have YY := Lib.hid (YY.out.below hb)
                    have SN := HSL.out _ BB.out
                    go_simp
                    refine hK.out _ _ (fun _ => SN) ?_
                    clear hK K SN hb NZ
                    generalize hG : World.alloc q15 _ = q25 at BB YY KA ⊢
                    clear hG
                    try simp only [Act.put, List.setIfInBounds_toArray, List.set_cons_zero, List.set_cons_succ]
                    refine AnyBut.one (i := 3) (o := ⟨some 65, _, _, _, _, none⟩) (by kernel_rfl) rfl (fun K hK => ?_)
                    have hb := alloc_below0 q25 (.cells #[.int .i64 11, .string ⟨#[]⟩, .string ⟨#[]⟩, .bool false, .int .i64 0, .slice none 0 0, .slice none 0 0, .string ⟨#[]⟩, .string ⟨#[]⟩, .int .i64 0, .int .i64 0, .int .i64 0, .string ⟨#[]⟩, .int .i64 0, .int .i64 0, .int .i64 10, .string ⟨#[]⟩, .string ⟨#[]⟩, .bool false, .int .i64 0, .slice none 0 0, .slice none 0 0, .string ⟨#[]⟩, .string ⟨#[]⟩, .int .i64 0, .int .i64 page, .int .i64 hl, .string hk4, .int .i64 0, .int .i64 0] 46)
                    have KB := Lib.hid (HB.new (.cells #[.int .i64 11, .string ⟨#[]⟩, .string ⟨#[]⟩, .bool false, .int .i64 0, .slice none 0 0, .slice none 0 0, .string ⟨#[]⟩, .string ⟨#[]⟩, .int .i64 0, .int .i64 0, .int .i64 0, .string ⟨#[]⟩, .int .i64 0, .int .i64 0, .int .i64 10, .string ⟨#[]⟩, .string ⟨#[]⟩, .bool false, .int .i64 0, .slice none 0 0, .slice none 0 0, .string ⟨#[]⟩, .string ⟨#[]⟩, .int .i64 0, .int .i64 page, .int .i64 hl, .string hk4, .int .i64 0, .int .i64 0] 46) q25)
                    have NZ := Lib.hid (show wcA.heap.size ≤ q25.heap.size from BB.out.size)
                    have NB := Lib.hid NZ.out
                    have NE := Lib.hid (show _ ≠ _ from (Nat.ne_of_lt KA.out.lt))
                    have BB := Lib.hid (BB.out.trans (hb.mono BB.out.size))
                    have YY := Lib.hid (YY.out.below hb)
                    have KA := Lib.hid (KA.out.below hb)
                    have SN := HSL.out _ BB.out
                    go_simp
                    refine hK.out _ _ (fun _ => SN) ?_
                    clear hK K SN hb NZ
                    generalize hG : World.alloc q25 _ = q26 at BB KB YY KA ⊢
                    clear hG
                    try simp only [Act.put, List.setIfInBounds_toArray, List.set_cons_zero, List.set_cons_succ]
                    refine AnyBut.one (i := 6) (o := ⟨some 68, _, _, _, _, none⟩) (by kernel_rfl) rfl (fun K hK => ?_)
                    have PP := ChO.of_blk (base := wcA.heap.size) (ss := [(⟨11, ⟨#[]⟩, ⟨#[]⟩, false, 0, ⟨#[]⟩, ⟨#[]⟩, 0, 0, 0, ⟨#[]⟩, 0, 0⟩ : Sc), ⟨10, ⟨#[]⟩, ⟨#[]⟩, false, 0, ⟨#[]⟩, ⟨#[]⟩, 0, page, hl, hk4, 0, 0⟩]) NB.out KB.out (show 2 ≤ maxLen by decide) SC.out
                    refine step_appS lRec 22 Try.underlying22 lRec_known (by decide) (by decide) rfl (.tmp 65) (.tmp 67) rfl wcA.heap.size rfl rfl PP.own YY.out.own.sv (by have := (few_read FW.out RY.out).1; simp; omega) BB.out.size ?_
                    intro v7 q27 ho hg
                    have QQ := Lib.hid (PP.append YY.out (Nat.le_refl _) ho hg)
                    have KA := Lib.hid (HB.grown KA.out hg (fun h => NE.out (Option.some.inj h)))
                    have BB := Lib.hid (BB.out.grown hg BB.out.size (fun k hk => (World.ownsRow.lt PP.own k hk).1))
                    have SN := HSL.out _ BB.out
                    clear PP ho hg KB YY NB NE
                    refine hK.out _ _ (fun _ => SN) ?_
                    clear hK K SN
                    try simp only [Act.put, List.setIfInBounds_toArray, List.set_cons_zero, List.set_cons_succ]
                    refine AnyBut.one (i := 7) (o := ⟨some 69, _, _, _, _, none⟩) (by kernel_rfl) rfl (fun K hK => ?_)
                    have RQ := (show readC (([(⟨11, ⟨#[]⟩, ⟨#[]⟩, false, 0, ⟨#[]⟩, ⟨#[]⟩, 0, 0, 0, ⟨#[]⟩, 0, 0⟩ : Sc), ⟨10, ⟨#[]⟩, ⟨#[]⟩, false, 0, ⟨#[]⟩, ⟨#[]⟩, 0, page, hl, hk4, 0, 0⟩].map fun s => (⟨s, none, 0, none, 0, [], []⟩ : RcD)) ++ dy) = dropI11 :: holdI10 page hl hk4 :: readC ds by (rw [readC_app, RY.out]; rfl))
                    have e1 := (show (([(⟨11, ⟨#[]⟩, ⟨#[]⟩, false, 0, ⟨#[]⟩, ⟨#[]⟩, 0, 0, 0, ⟨#[]⟩, 0, 0⟩ : Sc), ⟨10, ⟨#[]⟩, ⟨#[]⟩, false, 0, ⟨#[]⟩, ⟨#[]⟩, 0, page, hl, hk4, 0, 0⟩].map fun s => (⟨s, none, 0, none, 0, [], []⟩ : RcD)) ++ dy).length ≤ 100 by (have := (few_read FW.out RY.out).1; simp; omega))
                    have e2 := (show ((([(⟨11, ⟨#[]⟩, ⟨#[]⟩, false, 0, ⟨#[]⟩, ⟨#[]⟩, 0, 0, 0, ⟨#[]⟩, 0, 0⟩ : Sc), ⟨10, ⟨#[]⟩, ⟨#[]⟩, false, 0, ⟨#[]⟩, ⟨#[]⟩, 0, page, hl, hk4, 0, 0⟩].map fun s => (⟨s, none, 0, none, 0, [], []⟩ : RcD)) ++ dy).map fun d => d.ents.length).sum ≤ 1000 by (have := (few_read FW.out RY.out).2; simp; omega))
                    go_simp
                    refine (C.fold _ _ _ q27 QQ.out e1 e2).mono ?_
                    rintro ev q28 ⟨en2, rfl, hen, hsz, hs⟩
                    rw [RQ, CY.out.2] at hen hsz
                    rw [RQ, CY.out.1, CY.out.2, errV_zero rfl]
                    obtain ⟨za, zc, rfl, -, -⟩ := hen.lenN HM2.out
                    unfold ivVal
                    have EE := Lib.hid (hen.mono BB.out.size)
                    have ZZ := Lib.hid hsz
                    have BB := Lib.hid (BB.out.trans (hs.mono BB.out.size))
                    have KA := Lib.hid (KA.out.below hs)
                    have SN := HSL.out _ BB.out
                    clear hen hsz hs RQ e1 e2 QQ
                    refine hK.out _ _ (fun _ => SN) ?_
                    clear hK K SN
                    have SX := Lib.hid (HSL.out _ BB.out)
                    refine AnyBut.take (i := 8) (oi := ⟨some 61, _, _, _, _, none⟩) (v := ?vBx88) rfl (by kernel_rfl) (by kernel_rfl) (by kernel_rfl) (by kernel_rfl) (fun _ _ _ h => h) (Or.inl ⟨by rfl, ?hyBx88⟩) SX.out ?restBx88
                    case hyBx88 => (intro w hSw; go_simp; try (with_reducible rfl))
                    simp only [Act.put, List.setIfInBounds_toArray, List.set_cons_zero, List.set_cons_succ]
                    refine AnyBut.take (i := 9) (oi := ⟨some 70, _, _, _, _, none⟩) (v := ?vBx89) rfl (by kernel_rfl) (by kernel_rfl) (by kernel_rfl) (by kernel_rfl) (fun _ _ _ h => h) (Or.inl ⟨by rfl, ?hyBx89⟩) SX.out ?restBx89
                    case hyBx89 => (intro w hSw; go_simp; try (with_reducible rfl))
                    simp only [Act.put, List.setIfInBounds_toArray, List.set_cons_zero, List.set_cons_succ]
                    refine AnyBut.take (i := 10) (oi := ⟨some 71, _, _, _, _, none⟩) (v := ?vBx810) rfl (by kernel_rfl) (by kernel_rfl) (by kernel_rfl) (by kernel_rfl) (fun _ _ _ h => h) (Or.inl ⟨by rfl, ?hyBx810⟩) SX.out ?restBx810
                    case hyBx810 => (intro w hSw; go_simp; try (with_reducible rfl))
                    simp only [Act.put, List.setIfInBounds_toArray, List.set_cons_zero, List.set_cons_succ]
                    clear SX
                    have KS := KA.out.sets (ivCells dw (.slice za m2 zc)) rfl
                    have ES := EE.out.kept (Kept.setCells (ivCells dw (.slice za m2 zc)) 0 _ (Kept.refl (fun x => x = _) _)) (EE.out.apart KA.out (show lEnt.ty ≠ 29 by decide))
                    have BS := below_setCells NA.out (ivCells dw (.slice za m2 zc)) 0 _ BB.out
                    have SN := HSL.out _ BS
                    refine AnyBut.one (i := 12) (o := ⟨none, _, _, _, _, none⟩) (by kernel_rfl) rfl (fun K hK => ?_)
                    rw [if_pos (by rfl)]
                    refine wp_store_mid 29 (.tmp 13) (.tmp 70) rfl _ 0 (ivCells dw (.slice za m2 zc)).toArray rfl rfl (KA.out.there 9 (Nat.le_refl _)) ivInfoS (iv_one _ _ _ _) ?_
                    refine hK.out _ _ (fun _ => SN) ?_
                    clear hK K
                    try simp only [Act.put]
                    refine AnyBut.one (i := 13) (o := ⟨some 14, _, _, _, _, none⟩) (by kernel_rfl) rfl (fun K hK => ?_)
                    go_simp
                    refine hK.out _ _ (fun h => absurd rfl h) ?_
                    clear hK K
                    try simp only [Act.put, List.setIfInBounds_toArray, List.set_cons_zero, List.set_cons_succ]
                    refine AnyBut.done (by kernel_rfl) ?_ _
                    go_wp2
                    go_meet
                    case rel => exact ⟨_, za, zc, rfl, rfl, HB.vb KS, ES, ZZ.out, BS⟩
                · have hb := alloc_below0 q0 (.cells #[.string ⟨#[]⟩, .string ⟨#[]⟩, .bool false, .int .i64 0, .slice none 0 0, .bool false, .int .i64 0, .int .i64 0, .string ⟨#[]⟩] 29)
                  have KA := Lib.hid (HB.new (.cells #[.string ⟨#[]⟩, .string ⟨#[]⟩, .bool false, .int .i64 0, .slice none 0 0, .bool false, .int .i64 0, .int .i64 0, .string ⟨#[]⟩] 29) q0)
                  have NZ := Lib.hid (show wcA.heap.size ≤ q0.heap.size from BB.out.size)
                  have NA := Lib.hid NZ.out
                  have BB := Lib.hid (BB.out.trans (hb.mono BB.out.size))
                  have YL := Lib.hid (YL.out.below hb)
                  have SN := HSL.out _ BB.out
                  go_simp
                  refine hK.out _ _ (fun _ => SN) ?_
                  clear hK K SN hb NZ
                  generalize hG : World.alloc q0 _ = q29 at BB YL KA ⊢
                  clear hG
                  try simp only [Act.put, List.setIfInBounds_toArray, List.set_cons_zero, List.set_cons_succ]
                  refine AnyBut.two (i := 3) (j := 5) (o := ⟨some 65, _, _, _, _, none⟩) (u := ⟨some 67, _, _, _, _, none⟩) (by kernel_rfl) rfl rfl (fun K hK => ?_) (fun K hK => ?_)
                  · have hb := alloc_below0 q29 (.cells #[.int .i64 11, .string ⟨#[]⟩, .string ⟨#[]⟩, .bool false, .int .i64 0, .slice none 0 0, .slice none 0 0, .string ⟨#[]⟩, .string ⟨#[]⟩, .int .i64 0, .int .i64 0, .int .i64 0, .string ⟨#[]⟩, .int .i64 0, .int .i64 0, .int .i64 10, .string ⟨#[]⟩, .string ⟨#[]⟩, .bool false, .int .i64 0, .slice none 0 0, .slice none 0 0, .string ⟨#[]⟩, .string ⟨#[]⟩, .int .i64 0, .int .i64 page, .int .i64 hl, .string hk4, .int .i64 0, .int .i64 0] 46)
                    have KB := Lib.hid (HB.new (.cells #[.int .i64 11, .string ⟨#[]⟩, .string ⟨#[]⟩, .bool false, .int .i64 0, .slice none 0 0, .slice none 0 0, .string ⟨#[]⟩, .string ⟨#[]⟩, .int .i64 0, .int .i64 0, .int .i64 0, .string ⟨#[]⟩, .int .i64 0, .int .i64 0, .int .i64 10, .string ⟨#[]⟩, .string ⟨#[]⟩, .bool false, .int .i64 0, .slice none 0 0, .slice none 0 0, .string ⟨#[]⟩, .string ⟨#[]⟩, .int .i64 0, .int .i64 page, .int .i64 hl, .string hk4, .int .i64 0, .int .i64 0] 46) q29)
                    have NZ := Lib.hid (show wcA.heap.size ≤ q29.heap.size from BB.out.size)
                    have NB := Lib.hid NZ.out
                    have NE := Lib.hid (show _ ≠ _ from (Nat.ne_of_lt KA.out.lt))
                    have BB := Lib.hid (BB.out.trans (hb.mono BB.out.size))
                    have YL := Lib.hid (YL.out.below hb)
                    have KA := Lib.hid (KA.out.below hb)
                    have SN := HSL.out _ BB.out
                    go_simp
                    refine hK.out _ _ (fun _ => SN) ?_
                    clear hK K SN hb NZ
                    generalize hG : World.alloc q29 _ = q30 at BB YL KB KA ⊢
                    clear hG
                    try simp only [Act.put, List.setIfInBounds_toArray, List.set_cons_zero, List.set_cons_succ]
                    refine AnyBut.one (i := 5) (o := ⟨some 67, _, _, _, _, none⟩) (by kernel_rfl) rfl (fun K hK => ?_)
                    go_simp
                    refine (ownI_any u ds q30 YL.out FL.out).mono ?_
                    rintro ev q31 ⟨y, dy, rfl, hy, hr, hs⟩
                    have RY := Lib.hid hr
                    have YY := Lib.hid (hy.mono BB.out.size)
                    have BB := Lib.hid (BB.out.trans (hs.mono BB.out.size))
                    have KB := Lib.hid (KB.out.below hs)
                    have KA := Lib.hid (KA.out.below hs)
                    have SN := HSL.out _ BB.out
                    clear hy hr hs YL
                    refine hK.out _ _ (fun _ => SN) ?_
                    clear hK K SN
                    try simp only [Act.put, List.setIfInBounds_toArray, List.set_cons_zero, List.set_cons_succ]
                    refine AnyBut.one (i := 6) (o := ⟨some 68, _, _, _, _, none⟩) (by kernel_rfl) rfl (fun K hK => ?_)
                    have PP := ChO.of_blk (base := wcA.heap.size) (ss := [(⟨11, ⟨#[]⟩, ⟨#[]⟩, false, 0, ⟨#[]⟩, ⟨#[]⟩, 0, 0, 0, ⟨#[]⟩, 0, 0⟩ : Sc), ⟨10, ⟨#[]⟩, ⟨#[]⟩, false, 0, ⟨#[]⟩, ⟨#[]⟩, 0, page, hl, hk4, 0, 0⟩]) NB.out KB.out (show 2 ≤ maxLen by decide) SC.out
                    refine step_appS lRec 22 Try.underlying22 lRec_known (by decide) (by decide) rfl (.tmp 65) (.tmp 67) rfl wcA.heap.size rfl rfl PP.own YY.out.own.sv (by have := (few_read FW.out RY.out).1; simp; omega) BB.out.size ?_
                    intro v7 q32 ho hg
                    have QQ := Lib.hid (PP.append YY.out (Nat.le_refl _) ho hg)
                    have KA := Lib.hid (HB.grown KA.out hg (fun h => NE.out (Option.some.inj h)))
                    have BB := Lib.hid (BB.out.grown hg BB.out.size (fun k hk => (World.ownsRow.lt PP.own k hk).1))
                    have SN := HSL.out _ BB.out
                    clear PP ho hg KB YY NB NE
                    refine hK.out _ _ (fun _ => SN) ?_
                    clear hK K SN
                    try simp only [Act.put, List.setIfInBounds_toArray, List.set_cons_zero, List.set_cons_succ]
                    refine AnyBut.one (i := 7) (o := ⟨some 69, _, _, _, _, none⟩) (by kernel_rfl) rfl (fun K hK => ?_)
                    have RQ := (show readC (([(⟨11, ⟨#[]⟩, ⟨#[]⟩, false, 0, ⟨#[]⟩, ⟨#[]⟩, 0, 0, 0, ⟨#[]⟩, 0, 0⟩ : Sc), ⟨10, ⟨#[]⟩, ⟨#[]⟩, false, 0, ⟨#[]⟩, ⟨#[]⟩, 0, page, hl, hk4, 0, 0⟩].map fun s => (⟨s, none, 0, none, 0, [], []⟩ : RcD)) ++ dy) = dropI11 :: holdI10 page hl hk4 :: readC ds by (rw [readC_app, RY.out]; rfl))
                    have e1 := (show (([(⟨11, ⟨#[]⟩, ⟨#[]⟩, false, 0, ⟨#[]⟩, ⟨#[]⟩, 0, 0, 0, ⟨#[]⟩, 0, 0⟩ : Sc), ⟨10, ⟨#[]⟩, ⟨#[]⟩, false, 0, ⟨#[]⟩, ⟨#[]⟩, 0, page, hl, hk4, 0, 0⟩].map fun s => (⟨s, none, 0, none, 0, [], []⟩ : RcD)) ++ dy).length ≤ 100 by (have := (few_read FW.out RY.out).1; simp; omega))
                    have e2 := (show ((([(⟨11, ⟨#[]⟩, ⟨#[]⟩, false, 0, ⟨#[]⟩, ⟨#[]⟩, 0, 0, 0, ⟨#[]⟩, 0, 0⟩ : Sc), ⟨10, ⟨#[]⟩, ⟨#[]⟩, false, 0, ⟨#[]⟩, ⟨#[]⟩, 0, page, hl, hk4, 0, 0⟩].map fun s => (⟨s, none, 0, none, 0, [], []⟩ : RcD)) ++ dy).map fun d => d.ents.length).sum ≤ 1000 by (have := (few_read FW.out RY.out).2; simp; omega))
                    go_simp
                    refine (C.fold _ _ _ q32 QQ.out e1 e2).mono ?_
                    rintro ev q33 ⟨en2, rfl, hen, hsz, hs⟩
                    rw [RQ, CY.out.2] at hen hsz
                    rw [RQ, CY.out.1, CY.out.2, errV_zero rfl]
                    obtain ⟨za, zc, rfl, -, -⟩ := hen.lenN HM2.out
                    unfold ivVal
                    have EE := Lib.hid (hen.mono BB.out.size)
                    have ZZ := Lib.hid hsz
                    have BB := Lib.hid (BB.out.trans (hs.mono BB.out.size))
                    have KA := Lib.hid (KA.out.below hs)
                    have SN := HSL.out _ BB.out
                    clear hen hsz hs RQ e1 e2 QQ
                    refine hK.out _ _ (fun _ => SN) ?_
                    clear hK K SN
                    have SX := Lib.hid (HSL.out _ BB.out)
                    refine AnyBut.take (i := 8) (oi := ⟨some 61, _, _, _, _, none⟩) (v := ?vBx98) rfl (by kernel_rfl) (by kernel_rfl) (by kernel_rfl) (by kernel_rfl) (fun _ _ _ h => h) (Or.inl ⟨by rfl, ?hyBx98⟩) SX.out ?restBx98
                    case hyBx98 => (intro w hSw; go_simp; try (with_reducible rfl))
                    simp only [Act.put, List.setIfInBounds_toArray, List.set_cons_zero, List.set_cons_succ]
                    refine AnyBut.take (i := 9) (oi := ⟨some 70, _, _, _, _, none⟩) (v := ?vBx99) rfl (by kernel_rfl) (by kernel_rfl) (by kernel_rfl) (by kernel_rfl) (fun _ _ _ h => h) (Or.inl ⟨by rfl, ?hyBx99⟩) SX.out ?restBx99
                    case hyBx99 => (intro w hSw; go_simp; try (with_reducible rfl))
                    simp only [Act.put, List.setIfInBounds_toArray, List.set_cons_zero, List.set_cons_succ]
                    refine AnyBut.take (i := 10) (oi := ⟨some 71, _, _, _, _, none⟩) (v := ?vBx910) rfl (by kernel_rfl) (by kernel_rfl) (by kernel_rfl) (by kernel_rfl) (fun _ _ _ h => h) (Or.inl ⟨by rfl, ?hyBx910⟩) SX.out ?restBx910
                    case hyBx910 => (intro w hSw; go_simp; try (with_reducible rfl))
                    simp only [Act.put, List.setIfInBounds_toArray, List.set_cons_zero, List.set_cons_succ]
                    clear SX
                    have KS := KA.out.sets (ivCells dw (.slice za m2 zc)) rfl
                    have ES := EE.out.kept (Kept.setCells (ivCells dw (.slice za m2 zc)) 0 _ (Kept.refl (fun x => x = _) _)) (EE.out.apart KA.out (show lEnt.ty ≠ 29 by decide))
                    have BS := below_setCells NA.out (ivCells dw (.slice za m2 zc)) 0 _ BB.out
                    have SN := HSL.out _ BS
                    refine AnyBut.one (i := 12) (o := ⟨none, _, _, _, _, none⟩) (by kernel_rfl) rfl (fun K hK => ?_)
                    rw [if_pos (by rfl)]
                    refine wp_store_mid 29 (.tmp 13) (.tmp 70) rfl _ 0 (ivCells dw (.slice za m2 zc)).toArray rfl rfl (KA.out.there 9 (Nat.le_refl _)) ivInfoS (iv_one _ _ _ _) ?_
                    refine hK.out _ _ (fun _ => SN) ?_
                    clear hK K
                    try simp only [Act.put]
                    refine AnyBut.one (i := 13) (o := ⟨some 14, _, _, _, _, none⟩) (by kernel_rfl) rfl (fun K hK => ?_)
                    go_simp
                    refine hK.out _ _ (fun h => absurd rfl h) ?_
                    clear hK K
                    try simp only [Act.put, List.setIfInBounds_toArray, List.set_cons_zero, List.set_cons_succ]
                    refine AnyBut.done (by kernel_rfl) ?_ _
                    go_wp2
                    go_meet
                    case rel => exact ⟨_, za, zc, rfl, rfl, HB.vb KS, ES, ZZ.out, BS⟩
                  · go_simp
                    refine (ownI_any u ds q29 YL.out FL.out).mono ?_
                    rintro ev q34 ⟨y, dy, rfl, hy, hr, hs⟩
                    have RY := Lib.hid hr
                    have YY := Lib.hid (hy.mono BB.out.size)
                    have BB := Lib.hid (BB.out.trans (hs.mono BB.out.size))
                    have KA := Lib.hid (KA.out.below hs)
                    have SN := HSL.out _ BB.out
                    clear hy hr hs YL
                    refine hK.out _ _ (fun _ => SN) ?_
                    clear hK K SN
                    try simp only [Act.put, List.setIfInBounds_toArray, List.set_cons_zero, List.set_cons_succ]
                    refine AnyBut.one (i := 3) (o := ⟨some 65, _, _, _, _, none⟩) (by kernel_rfl) rfl (fun K hK => ?_)
                    have hb := alloc_below0 q34 (.cells #[.int .i64 11, .string ⟨#[]⟩, .string ⟨#[]⟩, .bool false, .int .i64 0, .slice none 0 0, .slice none 0 0, .string ⟨#[]⟩, .string ⟨#[]⟩, .int .i64 0, .int .i64 0, .int .i64 0, .string ⟨#[]⟩, .int .i64 0, .int .i64 0, .int .i64 10, .string ⟨#[]⟩, .string ⟨#[]⟩, .bool false, .int .i64 0, .slice none 0 0, .slice none 0 0, .string ⟨#[]⟩, .string ⟨#[]⟩, .int .i64 0, .int .i64 page, .int .i64 hl, .string hk4, .int .i64 0, .int .i64 0] 46)
                    have KB := Lib.hid (HB.new (.cells #[.int .i64 11, .string ⟨#[]⟩, .string ⟨#[]⟩, .bool false, .int .i64 0, .slice none 0 0, .slice none 0 0, .string ⟨#[]⟩, .string ⟨#[]⟩, .int .i64 0, .int .i64 0, .int .i64 0, .string ⟨#[]⟩, .int .i64 0, .int .i64 0, .int .i64 10, .string ⟨#[]⟩, .string ⟨#[]⟩, .bool false, .int .i64 0, .slice none 0 0, .slice none 0 0, .string ⟨#[]⟩, .string ⟨#[]⟩, .int .i64 0, .int .i64 page, .int .i64 hl, .string hk4, .int .i64 0, .int .i64 0] 46) q34)
                    have NZ := Lib.hid (show wcA.heap.size ≤ q34.heap.size from BB.out.size)
                    have NB := Lib.hid NZ.out
                    have NE := Lib.hid (show _ ≠ _ from (Nat.ne_of_lt KA.out.lt))
                    have BB := Lib.hid (BB.out.trans (hb.mono BB.out.size))
                    have YY := Lib.hid (YY.out.below hb)
                    have KA := Lib.hid (KA.out.below hb)
                    have SN := HSL.out _ BB.out
                    go_simp
                    refine hK.out _ _ (fun _ => SN) ?_
                    clear hK K SN hb NZ
                    generalize hG : World.alloc q34 _ = q35 at BB KB YY KA ⊢
                    clear hG
                    try simp only [Act.put, List.setIfInBounds_toArray, List.set_cons_zero, List.set_cons_succ]
                    refine AnyBut.one (i := 6) (o := ⟨some 68, _, _, _, _, none⟩) (by kernel_rfl) rfl (fun K hK => ?_)
                    have PP := ChO.of_blk (base := wcA.heap.size) (ss := [(⟨11, ⟨#[]⟩, ⟨#[]⟩, false, 0, ⟨#[]⟩, ⟨#[]⟩, 0, 0, 0, ⟨#[]⟩, 0, 0⟩ : Sc), ⟨10, ⟨#[]⟩, ⟨#[]⟩, false, 0, ⟨#[]⟩, ⟨#[]⟩, 0, page, hl, hk4, 0, 0⟩]) NB.out KB.out (show 2 ≤ maxLen by decide) SC.out
                    refine step_appS lRec 22 Try.underlying22 lRec_known (by decide) (by decide) rfl (.tmp 65) (.tmp 67) rfl wcA.heap.size rfl rfl PP.own YY.out.own.sv (by have := (few_read FW.out RY.out).1; simp; omega) BB.out.size ?_
                    intro v7 q36 ho hg
                    have QQ := Lib.hid (PP.append YY.out (Nat.le_refl _) ho hg)
                    have KA := Lib.hid (HB.grown KA.out hg (fun h => NE.out (Option.some.inj h)))
                    have BB := Lib.hid (BB.out.grown hg BB.out.size (fun k hk => (World.ownsRow.lt PP.own k hk).1))
                    have SN := HSL.out _ BB.out
                    clear PP ho hg KB YY NB NE
                    refine hK.out _ _ (fun _ => SN) ?_
                    clear hK K SN
                    try simp only [Act.put, List.setIfInBounds_toArray, List.set_cons_zero, List.set_cons_succ]
                    refine AnyBut.one (i := 7) (o := ⟨some 69, _, _, _, _, none⟩) (by kernel_rfl) rfl (fun K hK => ?_)
                    have RQ := (show readC (([(⟨11, ⟨#[]⟩, ⟨#[]⟩, false, 0, ⟨#[]⟩, ⟨#[]⟩, 0, 0, 0, ⟨#[]⟩, 0, 0⟩ : Sc), ⟨10, ⟨#[]⟩, ⟨#[]⟩, false, 0, ⟨#[]⟩, ⟨#[]⟩, 0, page, hl, hk4, 0, 0⟩].map fun s => (⟨s, none, 0, none, 0, [], []⟩ : RcD)) ++ dy) = dropI11 :: holdI10 page hl hk4 :: readC ds by (rw [readC_app, RY.out]; rfl))
                    have e1 := (show (([(⟨11, ⟨#[]⟩, ⟨#[]⟩, false, 0, ⟨#[]⟩, ⟨#[]⟩, 0, 0, 0, ⟨#[]⟩, 0, 0⟩ : Sc), ⟨10, ⟨#[]⟩, ⟨#[]⟩, false, 0, ⟨#[]⟩, ⟨#[]⟩, 0, page, hl, hk4, 0, 0⟩].map fun s => (⟨s, none, 0, none, 0, [], []⟩ : RcD)) ++ dy).length ≤ 100 by (have := (few_read FW.out RY.out).1; simp; omega))
                    have e2 := (show ((([(⟨11, ⟨#[]⟩, ⟨#[]⟩, false, 0, ⟨#[]⟩, ⟨#[]⟩, 0, 0, 0, ⟨#[]⟩, 0, 0⟩ : Sc), ⟨10, ⟨#[]⟩, ⟨#[]⟩, false, 0, ⟨#[]⟩, ⟨#[]⟩, 0, page, hl, hk4, 0, 0⟩].map fun s => (⟨s, none, 0, none, 0, [], []⟩ : RcD)) ++ dy).map fun d => d.ents.length).sum ≤ 1000 by (have := (few_read FW.out RY.out).2; simp; omega))
                    go_simp
                    refine (C.fold _ _ _ q36 QQ.out e1 e2).mono ?_
                    rintro ev q37 ⟨en2, rfl, hen, hsz, hs⟩
                    rw [RQ, CY.out.2] at hen hsz
                    rw [RQ, CY.out.1, CY.out.2, errV_zero rfl]
                    obtain ⟨za, zc, rfl, -, -⟩ := hen.lenN HM2.out
                    unfold ivVal
                    have EE := Lib.hid (hen.mono BB.out.size)
                    have ZZ := Lib.hid hsz
                    have BB := Lib.hid (BB.out.trans (hs.mono BB.out.size))
                    have KA := Lib.hid (KA.out.below hs)
                    have SN := HSL.out _ BB.out
                    clear hen hsz hs RQ e1 e2 QQ
                    refine hK.out _ _ (fun _ => SN) ?_
                    clear hK K SN
                    have SX := Lib.hid (HSL.out _ BB.out)
                    refine AnyBut.take (i := 8) (oi := ⟨some 61, _, _, _, _, none⟩) (v := ?vBx108) rfl (by kernel_rfl) (by kernel_rfl) (by kernel_rfl) (by kernel_rfl) (fun _ _ _ h => h) (Or.inl ⟨by rfl, ?hyBx108⟩) SX.out ?restBx108
                    case hyBx108 => (intro w hSw; go_simp; try (with_reducible rfl))
                    simp only [Act.put, List.setIfInBounds_toArray, List.set_cons_zero, List.set_cons_succ]
                    refine AnyBut.take (i := 9) (oi := ⟨some 70, _, _, _, _, none⟩) (v := ?vBx109) rfl (by kernel_rfl) (by kernel_rfl) (by kernel_rfl) (by kernel_rfl) (fun _ _ _ h => h) (Or.inl ⟨by rfl, ?hyBx109⟩) SX.out ?restBx109
                    case hyBx109 => (intro w hSw; go_simp; try (with_reducible rfl))
                    simp only [Act.put, List.setIfInBounds_toArray, List.set_cons_zero, List.set_cons_succ]
                    refine AnyBut.take (i := 10) (oi := ⟨some 71, _, _, _, _, none⟩) (v := ?vBx1010) rfl (by kernel_rfl) (by kernel_rfl) (by kernel_rfl) (by kernel_rfl) (fun _ _ _ h => h) (Or.inl ⟨by rfl, ?hyBx1010⟩) SX.out ?restBx1010
                    case hyBx1010 => (intro w hSw; go_simp; try (with_reducible rfl))
                    simp only [Act.put, List.setIfInBounds_toArray, List.set_cons_zero, List.set_cons_succ]
                    clear SX
                    have KS := KA.out.sets (ivCells dw (.slice za m2 zc)) rfl
                    have ES := EE.out.kept (Kept.setCells (ivCells dw (.slice za m2 zc)) 0 _ (Kept.refl (fun x => x = _) _)) (EE.out.apart KA.out (show lEnt.ty ≠ 29 by decide))
                    have BS := below_setCells NA.out (ivCells dw (.slice za m2 zc)) 0 _ BB.out
                    have SN := HSL.out _ BS
                    refine AnyBut.one (i := 12) (o := ⟨none, _, _, _, _, none⟩) (by kernel_rfl) rfl (fun K hK => ?_)
                    rw [if_pos (by rfl)]
                    refine wp_store_mid 29 (.tmp 13) (.tmp 70) rfl _ 0 (ivCells dw (.slice za m2 zc)).toArray rfl rfl (KA.out.there 9 (Nat.le_refl _)) ivInfoS (iv_one _ _ _ _) ?_
                    refine hK.out _ _ (fun _ => SN) ?_
                    clear hK K
                    try simp only [Act.put]
                    refine AnyBut.one (i := 13) (o := ⟨some 14, _, _, _, _, none⟩) (by kernel_rfl) rfl (fun K hK => ?_)
                    go_simp
                    refine hK.out _ _ (fun h => absurd rfl h) ?_
                    clear hK K
                    try simp only [Act.put, List.setIfInBounds_toArray, List.set_cons_zero, List.set_cons_succ]
                    refine AnyBut.done (by kernel_rfl) ?_ _
                    go_wp2
                    go_meet
                    case rel => exact ⟨_, za, zc, rfl, rfl, HB.vb KS, ES, ZZ.out, BS⟩
              case rest =>
                obtain ⟨nbB, zaB, zcB, rfl, rfl, hV, hE, hZ, hs⟩ := hcut
                obtain ⟨wcB, hwq⟩ : ∃ x, x = wc := ⟨_, rfl⟩
                subst hwq
                have S5 := Lib.hid (S_B.out.size)
                have L8 := Lib.hid (L7.out.below hs)
                have B8 := Lib.hid (B7.out.trans (hs.mono B7.out.size))
                have X6 := Lib.hid (X5.out.below hs)
                have E5 := Lib.hid (E4.out.below hs)
                have V4 := Lib.hid (V3.out.below hs)
                have H4 := Lib.hid (H3.out.below hs)
                have D2 := Lib.hid (D1.out.below hs)
                have Uh1 := Lib.hid (Uh0.out.below hs)
                have Fh1 := Lib.hid (Fh0.out.below hs)
                have W1 := Lib.hid (W0.out.trans (hs.mono W0.out.size))
                clear L7 B7 X5 E4 V3 H3 D1 Uh0 Fh0 W0
                have Uw0 := Lib.hid (hV)
                have Fw0 := Lib.hid (hE.mono S5.out)
                have Yw0 := Lib.hid (hZ)
                clear hs hV hE hZ S5 HSL FL CY SC W1 S_L S_B S_X S_E S_V S_H S_D S_Uh S_Fh
                have hl1 := HL.out
                have hm1 := HM.out
                have hm2 := HM2.out
                have hm3 := PL.out
                have MW := Lib.hid (show IntKind.i64.wrap ((m : Int) - 1) = (m2 : Int) by rw [Go.IntWalk.i64_in _ (by omega)]; omega)
                have L2 := Lib.hid (show dw.ents.length ≤ 1000 by omega)
                clear hl1 hm1 hm2 hm3
                have u_nbA4 : wcB.cell? ⟨nbA, 4, none⟩ = some (.slice zaA m zcA) := Uh1.out.c4
                have u_nbA5 : wcB.cell? ⟨nbA, 5, none⟩ = some (.bool true) := Uh1.out.c5
                have u_nbA6 : wcB.cell? ⟨nbA, 6, none⟩ = some (.int .i64 page) := Uh1.out.c6
                have u_nbA7 : wcB.cell? ⟨nbA, 7, none⟩ = some (.int .i64 hl) := Uh1.out.c7
                have u_nbA8 : wcB.cell? ⟨nbA, 8, none⟩ = some (.string hk4) := Uh1.out.c8
                have u_nbB4 : wcB.cell? ⟨nbB, 4, none⟩ = some (.slice zaB m2 zcB) := Uw0.out.c4
                have u_nbB5 : wcB.cell? ⟨nbB, 5, none⟩ = some (.bool false) := by rw [← PH.out]; exact Uw0.out.c5
                have v_4 := V4.out.c4
                have d_0 := D2.out.c0
                have d_1 := D2.out.c1
                have d_2 := D2.out.c2
                have mw := MW.out
                have v_0 := V4.out.c0
                have v_1 := V4.out.c1
                have v_2 := V4.out.c2
                have v_3 := V4.out.c3
                have v_5 := V4.out.c5
                have v_6 := V4.out.c6
                have v_7 := V4.out.c7
                have v_8 := V4.out.c8
                go_wp2_with fail
                refine (C.child _ v (.slice xa m xc) key _ E5.out HG.out.ris HL.out Z0.out HK.out).mono ?_
                rintro ev w6 ⟨rfl, hs⟩
                clear u_nbA4 u_nbA5 u_nbA6 u_nbA7 u_nbA8 u_nbB4 u_nbB5 v_4 d_0 d_1 d_2 mw v_0 v_1 v_2 v_3 v_5 v_6 v_7 v_8
                have L9 := Lib.hid (L8.out.below hs)
                have B9 := Lib.hid (B8.out.trans (hs.mono B8.out.size))
                have X7 := Lib.hid (X6.out.below hs)
                have E6 := Lib.hid (E5.out.below hs)
                have V5 := Lib.hid (V4.out.below hs)
                have H5 := Lib.hid (H4.out.below hs)
                have D3 := Lib.hid (D2.out.below hs)
                have Uh2 := Lib.hid (Uh1.out.below hs)
                have Fh2 := Lib.hid (Fh1.out.below hs)
                have Uw1 := Lib.hid (Uw0.out.below hs)
                have Fw1 := Lib.hid (Fw0.out.below hs)
                clear L8 B8 X6 E5 V4 H4 D2 Uh1 Fh1 Uw0 Fw0
                clear hs
                cases hcd : childI v key with
                | none =>
                  rw [show childC v key = 2 by unfold childC; rw [hcd]; rfl, errV_code (show (2 : Int) ≠ 0 by decide)]
                  have KN := Lib.hid ((PC.out key).1 hcd)
                  clear hcd
                  unfold entVal
                  simp only [Option.getD_none]
                  have hs := alloc_below0 w6 (entObj e0)
                  have L10 := Lib.hid (L9.out.below hs)
                  have B10 := Lib.hid (B9.out.trans (hs.mono B9.out.size))
                  have X8 := Lib.hid (X7.out.below hs)
                  have E7 := Lib.hid (E6.out.below hs)
                  have V6 := Lib.hid (V5.out.below hs)
                  have H6 := Lib.hid (H5.out.below hs)
                  have D4 := Lib.hid (D3.out.below hs)
                  have Uh3 := Lib.hid (Uh2.out.below hs)
                  have Fh3 := Lib.hid (Fh2.out.below hs)
                  have Uw2 := Lib.hid (Uw1.out.below hs)
                  have Fw2 := Lib.hid (Fw1.out.below hs)
                  clear L9 B9 X7 E6 V5 H5 D3 Uh2 Fh2 Uw1 Fw1
                  clear hs
                  unfold entObj at L10 B10 X8 E7 V6 H6 D4 Uh3 Fh3 Uw2 Fw2
                  have u_0 := Uw2.out.c0
                  have u_1 := Uw2.out.c1
                  have u_2 := Uw2.out.c2
                  have u_3 := Uw2.out.c3
                  have u_4 := Uw2.out.c4
                  have u_5 := Uw2.out.c5
                  have u_6 := Uw2.out.c6
                  have u_7 := Uw2.out.c7
                  have u_8 := Uw2.out.c8
                  go_wp2_with fail
                  refine (C.child _ dw (.slice zaB m2 zcB) key _ Fw2.out G2.out.ris L2.out Yw0.out HK.out).mono ?_
                  rintro ev w7 ⟨rfl, hs⟩
                  rw [show childC dw key = 2 by unfold childC; rw [KN.out]; rfl, errV_code (show (2 : Int) ≠ 0 by decide), KN.out]
                  simp only [Option.getD_none]
                  clear u_0 u_1 u_2 u_3 u_4 u_5 u_6 u_7 u_8
                  have L11 := Lib.hid (L10.out.below hs)
                  have B11 := Lib.hid (B10.out.trans (hs.mono B10.out.size))
                  have X9 := Lib.hid (X8.out.below hs)
                  have E8 := Lib.hid (E7.out.below hs)
                  have V7 := Lib.hid (V6.out.below hs)
                  have H7 := Lib.hid (H6.out.below hs)
                  have D5 := Lib.hid (D4.out.below hs)
                  have Uh4 := Lib.hid (Uh3.out.below hs)
                  have Fh4 := Lib.hid (Fh3.out.below hs)
                  have Uw3 := Lib.hid (Uw2.out.below hs)
                  have Fw3 := Lib.hid (Fw2.out.below hs)
                  clear L10 B10 X8 E7 V6 H6 D4 Uh3 Fh3 Uw2 Fw2
                  clear hs
                  unfold entVal
                  have hs := alloc_below0 w7 (entObj e0)
                  have L12 := Lib.hid (L11.out.below hs)
                  have B12 := Lib.hid (B11.out.trans (hs.mono B11.out.size))
                  have X10 := Lib.hid (X9.out.below hs)
                  have E9 := Lib.hid (E8.out.below hs)
                  have V8 := Lib.hid (V7.out.below hs)
                  have H8 := Lib.hid (H7.out.below hs)
                  have D6 := Lib.hid (D5.out.below hs)
                  have Uh5 := Lib.hid (Uh4.out.below hs)
                  have Fh5 := Lib.hid (Fh4.out.below hs)
                  have Uw4 := Lib.hid (Uw3.out.below hs)
                  have Fw4 := Lib.hid (Fw3.out.below hs)
                  clear L11 B11 X9 E8 V7 H7 D5 Uh4 Fh4 Uw3 Fw3
                  clear hs
                  unfold entObj at L12 B12 X10 E9 V8 H8 D6 Uh5 Fh5 Uw4 Fw4
                  go_wp2_with fail
                  refine (awakeI C _).mono ?_
                  rintro ev w8 ⟨rfl, hs⟩
                  have L13 := Lib.hid (L12.out.below hs)
                  have B13 := Lib.hid (B12.out.trans (hs.mono B12.out.size))
                  have X11 := Lib.hid (X10.out.below hs)
                  have E10 := Lib.hid (E9.out.below hs)
                  have V9 := Lib.hid (V8.out.below hs)
                  have H9 := Lib.hid (H8.out.below hs)
                  have D7 := Lib.hid (D6.out.below hs)
                  have Uh6 := Lib.hid (Uh5.out.below hs)
                  have Fh6 := Lib.hid (Fh5.out.below hs)
                  have Uw5 := Lib.hid (Uw4.out.below hs)
                  have Fw5 := Lib.hid (Fw4.out.below hs)
                  clear L12 B12 X10 E9 V8 H8 D6 Uh5 Fh5 Uw4 Fw4
                  clear hs
                  go_wp2
                  go_ret
                  exact ⟨rfl, B13.out⟩
                | some c =>
                  rw [show childC v key = 0 by unfold childC; rw [hcd]; rfl, errV_zero rfl]
                  have CD := Lib.hid ((PC.out key).2 c hcd)
                  clear hcd
                  unfold entVal
                  simp only [Option.getD_some]
                  have hs := alloc_below0 w6 (entObj c)
                  have L10 := Lib.hid (L9.out.below hs)
                  have B10 := Lib.hid (B9.out.trans (hs.mono B9.out.size))
                  have X8 := Lib.hid (X7.out.below hs)
                  have E7 := Lib.hid (E6.out.below hs)
                  have V6 := Lib.hid (V5.out.below hs)
                  have H6 := Lib.hid (H5.out.below hs)
                  have D4 := Lib.hid (D3.out.below hs)
                  have Uh3 := Lib.hid (Uh2.out.below hs)
                  have Fh3 := Lib.hid (Fh2.out.below hs)
                  have Uw2 := Lib.hid (Uw1.out.below hs)
                  have Fw2 := Lib.hid (Fw1.out.below hs)
                  clear L9 B9 X7 E6 V5 H5 D3 Uh2 Fh2 Uw1 Fw1
                  have X20 := Lib.hid (EB.new c w6)
                  clear hs
                  unfold entObj at L10 B10 X8 E7 V6 H6 D4 Uh3 Fh3 Uw2 Fw2 X20
                  by_cases hq : c.1 = hk4
                  · obtain ⟨d, hd, hdl⟩ := CD.out.1 hq
                    have KD := Lib.hid hd
                    have KS2 := Lib.hid (show (c.1.toList == hk4.toList) = true from by rw [hq]; simp)
                    have PS := Lib.hid (show (d.2 == hl) = true by rw [hdl]; simp)
                    clear hd hq hdl
                    have u_0 := Uw2.out.c0
                    have u_1 := Uw2.out.c1
                    have u_2 := Uw2.out.c2
                    have u_3 := Uw2.out.c3
                    have u_4 := Uw2.out.c4
                    have u_5 := Uw2.out.c5
                    have u_6 := Uw2.out.c6
                    have u_7 := Uw2.out.c7
                    have u_8 := Uw2.out.c8
                    go_wp2_with fail
                    refine (C.child _ dw (.slice zaB m2 zcB) key _ Fw2.out G2.out.ris L2.out Yw0.out HK.out).mono ?_
                    rintro ev w7 ⟨rfl, hs⟩
                    rw [show childC dw key = 0 by unfold childC; rw [KD.out]; rfl, errV_zero rfl, KD.out]
                    simp only [Option.getD_some]
                    clear u_0 u_1 u_2 u_3 u_4 u_5 u_6 u_7 u_8
                    have L11 := Lib.hid (L10.out.below hs)
                    have B11 := Lib.hid (B10.out.trans (hs.mono B10.out.size))
                    have X9 := Lib.hid (X8.out.below hs)
                    have E8 := Lib.hid (E7.out.below hs)
                    have V7 := Lib.hid (V6.out.below hs)
                    have H7 := Lib.hid (H6.out.below hs)
                    have D5 := Lib.hid (D4.out.below hs)
                    have Uh4 := Lib.hid (Uh3.out.below hs)
                    have Fh4 := Lib.hid (Fh3.out.below hs)
                    have Uw3 := Lib.hid (Uw2.out.below hs)
                    have Fw3 := Lib.hid (Fw2.out.below hs)
                    have X21 := Lib.hid (X20.out.below hs)
                    clear L10 B10 X8 E7 V6 H6 D4 Uh3 Fh3 Uw2 Fw2 X20
                    clear hs
                    unfold entVal
                    have hs := alloc_below0 w7 (entObj d)
                    have L12 := Lib.hid (L11.out.below hs)
                    have B12 := Lib.hid (B11.out.trans (hs.mono B11.out.size))
                    have X10 := Lib.hid (X9.out.below hs)
                    have E9 := Lib.hid (E8.out.below hs)
                    have V8 := Lib.hid (V7.out.below hs)
                    have H8 := Lib.hid (H7.out.below hs)
                    have D6 := Lib.hid (D5.out.below hs)
                    have Uh5 := Lib.hid (Uh4.out.below hs)
                    have Fh5 := Lib.hid (Fh4.out.below hs)
                    have Uw4 := Lib.hid (Uw3.out.below hs)
                    have Fw4 := Lib.hid (Fw3.out.below hs)
                    have X22 := Lib.hid (X21.out.below hs)
                    clear L11 B11 X9 E8 V7 H7 D5 Uh4 Fh4 Uw3 Fw3 X21
                    have X30 := Lib.hid (EB.new d w7)
                    clear hs
                    unfold entObj at L12 B12 X10 E9 V8 H8 D6 Uh5 Fh5 Uw4 Fw4 X22 X30
                    have x_0 := X22.out.c0
                    have x_1 := X22.out.c1
                    have e_0 := X30.out.c0
                    have e_1 := X30.out.c1
                    have d_0 := D6.out.c0
                    have d_1 := D6.out.c1
                    have d_2 := D6.out.c2
                    have ks := KS2.out
                    have ps := PS.out
                    go_wp2_with fail
                    refine (awakeI C _).mono ?_
                    rintro ev w8 ⟨rfl, hs⟩
                    clear x_0 x_1 e_0 e_1 d_0 d_1 d_2 ks ps
                    have L13 := Lib.hid (L12.out.below hs)
                    have B13 := Lib.hid (B12.out.trans (hs.mono B12.out.size))
                    have X11 := Lib.hid (X10.out.below hs)
                    have E10 := Lib.hid (E9.out.below hs)
                    have V9 := Lib.hid (V8.out.below hs)
                    have H9 := Lib.hid (H8.out.below hs)
                    have D7 := Lib.hid (D6.out.below hs)
                    have Uh6 := Lib.hid (Uh5.out.below hs)
                    have Fh6 := Lib.hid (Fh5.out.below hs)
                    have Uw5 := Lib.hid (Uw4.out.below hs)
                    have Fw5 := Lib.hid (Fw4.out.below hs)
                    have X23 := Lib.hid (X22.out.below hs)
                    have X31 := Lib.hid (X30.out.below hs)
                    clear L12 B12 X10 E9 V8 H8 D6 Uh5 Fh5 Uw4 Fw4 X22 X30
                    clear hs
                    go_wp2
                    go_ret
                    exact ⟨rfl, B13.out⟩
                  · have hd := CD.out.2 hq
                    have KD := Lib.hid hd
                    have KS2 := Lib.hid (show (c.1.toList == hk4.toList) = false from by simp; intro h; exact hq (data_ext (by rw [← ByteArray.toList_eq, ← ByteArray.toList_eq]; exact h)))
                    clear hd hq
                    have u_0 := Uw2.out.c0
                    have u_1 := Uw2.out.c1
                    have u_2 := Uw2.out.c2
                    have u_3 := Uw2.out.c3
                    have u_4 := Uw2.out.c4
                    have u_5 := Uw2.out.c5
                    have u_6 := Uw2.out.c6
                    have u_7 := Uw2.out.c7
                    have u_8 := Uw2.out.c8
                    go_wp2_with fail
                    refine (C.child _ dw (.slice zaB m2 zcB) key _ Fw2.out G2.out.ris L2.out Yw0.out HK.out).mono ?_
                    rintro ev w7 ⟨rfl, hs⟩
                    rw [show childC dw key = 0 by unfold childC; rw [KD.out]; rfl, errV_zero rfl, KD.out]
                    simp only [Option.getD_some]
                    clear u_0 u_1 u_2 u_3 u_4 u_5 u_6 u_7 u_8
                    have L11 := Lib.hid (L10.out.below hs)
                    have B11 := Lib.hid (B10.out.trans (hs.mono B10.out.size))
                    have X9 := Lib.hid (X8.out.below hs)
                    have E8 := Lib.hid (E7.out.below hs)
                    have V7 := Lib.hid (V6.out.below hs)
                    have H7 := Lib.hid (H6.out.below hs)
                    have D5 := Lib.hid (D4.out.below hs)
                    have Uh4 := Lib.hid (Uh3.out.below hs)
                    have Fh4 := Lib.hid (Fh3.out.below hs)
                    have Uw3 := Lib.hid (Uw2.out.below hs)
                    have Fw3 := Lib.hid (Fw2.out.below hs)
                    have X21 := Lib.hid (X20.out.below hs)
                    clear L10 B10 X8 E7 V6 H6 D4 Uh3 Fh3 Uw2 Fw2 X20
                    clear hs
                    unfold entVal
                    have hs := alloc_below0 w7 (entObj c)
                    have L12 := Lib.hid (L11.out.below hs)
                    have B12 := Lib.hid (B11.out.trans (hs.mono B11.out.size))
                    have X10 := Lib.hid (X9.out.below hs)
                    have E9 := Lib.hid (E8.out.below hs)
                    have V8 := Lib.hid (V7.out.below hs)
                    have H8 := Lib.hid (H7.out.below hs)
                    have D6 := Lib.hid (D5.out.below hs)
                    have Uh5 := Lib.hid (Uh4.out.below hs)
                    have Fh5 := Lib.hid (Fh4.out.below hs)
                    have Uw4 := Lib.hid (Uw3.out.below hs)
                    have Fw4 := Lib.hid (Fw3.out.below hs)
                    have X22 := Lib.hid (X21.out.below hs)
                    clear L11 B11 X9 E8 V7 H7 D5 Uh4 Fh4 Uw3 Fw3 X21
                    have X30 := Lib.hid (EB.new c w7)
                    clear hs
                    unfold entObj at L12 B12 X10 E9 V8 H8 D6 Uh5 Fh5 Uw4 Fw4 X22 X30
                    have x_0 := X22.out.c0
                    have x_1 := X22.out.c1
                    have e_0 := X30.out.c0
                    have e_1 := X30.out.c1
                    have d_0 := D6.out.c0
                    have d_1 := D6.out.c1
                    have d_2 := D6.out.c2
                    have ks := KS2.out
                    have k1 : (c.1.toList == c.1.toList) = true := by simp
                    have k2 : (c.2 == c.2) = true := by simp
                    go_wp2_with fail
                    refine (awakeI C _).mono ?_
                    rintro ev w8 ⟨rfl, hs⟩
                    clear x_0 x_1 e_0 e_1 d_0 d_1 d_2 ks k1 k2
                    have L13 := Lib.hid (L12.out.below hs)
                    have B13 := Lib.hid (B12.out.trans (hs.mono B12.out.size))
                    have X11 := Lib.hid (X10.out.below hs)
                    have E10 := Lib.hid (E9.out.below hs)
                    have V9 := Lib.hid (V8.out.below hs)
                    have H9 := Lib.hid (H8.out.below hs)
                    have D7 := Lib.hid (D6.out.below hs)
                    have Uh6 := Lib.hid (Uh5.out.below hs)
                    have Fh6 := Lib.hid (Fh5.out.below hs)
                    have Uw5 := Lib.hid (Uw4.out.below hs)
                    have Fw5 := Lib.hid (Fw4.out.below hs)
                    have X23 := Lib.hid (X22.out.below hs)
                    have X31 := Lib.hid (X30.out.below hs)
                    clear L12 B12 X10 E9 V8 H8 D6 Uh5 Fh5 Uw4 Fw4 X22 X30
                    clear hs
                    go_wp2
                    go_ret
                    exact ⟨rfl, B13.out⟩
      · rw [errV_code hc]
        have hs := alloc_below0 w3 (ivObj v (.slice xa m xc))
        have L4 := Lib.hid (L3.out.below hs)
        have B4 := Lib.hid (B3.out.trans (hs.mono B3.out.size))
        have X2 := Lib.hid (X1.out.below hs)
        have E1 := Lib.hid (E0.out.below hs)
        clear L3 B3 X1 E0
        have V0 := Lib.hid (VB.new v (.slice xa m xc) w3)
        clear hs
        unfold ivObj at L4 B4 X2 E1 V0
        have HZ := Lib.hid (viewI_bad hc N1.out)
        clear hc
        have v_0 := V0.out.c0
        have v_1 := V0.out.c1
        have v_2 := V0.out.c2
        have v_3 := V0.out.c3
        have v_4 := V0.out.c4
        have v_5 := V0.out.c5
        have v_6 := V0.out.c6
        have v_7 := V0.out.c7
        have v_8 := V0.out.c8
        go_wp2_with fail
        refine (C.hold4 _ v (.slice xa m xc) page _ E1.out HZ.out.1 HZ.out.2 Z0.out).mono ?_
        rintro ev w4 ⟨rfl, hs⟩
        clear v_0 v_1 v_2 v_3 v_4 v_5 v_6 v_7 v_8
        have L5 := Lib.hid (L4.out.below hs)
        have B5 := Lib.hid (B4.out.trans (hs.mono B4.out.size))
        have X3 := Lib.hid (X2.out.below hs)
        have E2 := Lib.hid (E1.out.below hs)
        have V1 := Lib.hid (V0.out.below hs)
        clear L4 B4 X2 E1 V0
        clear hs
        obtain ⟨p1, l1, k1, hh1⟩ : ∃ p1 l1 k1, (holdE v page).1 = hdVal p1 l1 k1 := by unfold holdE; split <;> exact ⟨_, _, _, rfl⟩
        rw [hh1]
        clear hh1
        obtain ⟨e1, he1⟩ : ∃ e1, errV (holdE v page).2 = e1 := ⟨_, rfl⟩
        rw [he1]
        unfold hdVal
        have hs := alloc_below0 w4 (hdObj p1 l1 k1)
        have L6 := Lib.hid (L5.out.below hs)
        have B6 := Lib.hid (B5.out.trans (hs.mono B5.out.size))
        have X4 := Lib.hid (X3.out.below hs)
        have E3 := Lib.hid (E2.out.below hs)
        have V2 := Lib.hid (V1.out.below hs)
        clear L5 B5 X3 E2 V1
        clear hs
        unfold hdObj at L6 B6 X4 E3 V2
        clear he1
        go_wp2_with fail
        refine (awakeI C _).mono ?_
        rintro ev w5 ⟨rfl, hs⟩
        have L7 := Lib.hid (L6.out.below hs)
        have B7 := Lib.hid (B6.out.trans (hs.mono B6.out.size))
        have X5 := Lib.hid (X4.out.below hs)
        have E4 := Lib.hid (E3.out.below hs)
        have V3 := Lib.hid (V2.out.below hs)
        clear L6 B6 X4 E3 V2
        clear hs
        go_wp2
        go_ret
        exact ⟨rfl, B7.out⟩
    · go_wp2_with fail
      refine (awakeI C _).mono ?_
      rintro ev w2 ⟨rfl, hs⟩
      have L2 := Lib.hid (L1.out.below hs)
      have B2 := Lib.hid (B1.out.trans (hs.mono B1.out.size))
      clear L1 B1
      clear hs
      go_wp2
      go_ret
      exact ⟨rfl, B2.out⟩
end Go.Proofs.Ytghdlfpobfimlaa
