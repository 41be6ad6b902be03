/- The walk of the law ArenaCounts, out of package arena's contracts. -/
import Derived.Test.YtkokpbkpmhhemaaArFew
import Derived.Test.YtkokpbkpmhhemaaArFills
namespace Go.Proofs.Ytkokpbkpmhhemaa
open Go.RowKit

theorem DB.of_range {b : Nat} {d : DoD} {w : World} (h : w.rangeAt b 0 d.cells) : DB b d.verb d.sc (.slice d.ra d.rows.length d.rc) (.slice d.ea d.ents.length d.ec) d.x d.y d.last d.nn w := by
  have g : ∀ j u, d.cells[j]? = some u → w.cell? ⟨b, j, none⟩ = some u := fun j u hj => by have := h j u hj; rwa [Nat.zero_add] at this
  exact ⟨g 0 _ rfl, g 1 _ rfl, g 2 _ rfl, g 3 _ rfl, g 4 _ rfl, g 5 _ rfl, g 6 _ rfl, g 7 _ rfl, g 8 _ rfl, g 9 _ rfl, g 10 _ rfl, g 11 _ rfl, g 12 _ rfl, g 13 _ rfl, g 14 _ rfl, g 15 _ rfl, g 16 _ rfl, g 17 _ rfl, g 18 _ rfl, g 19 _ rfl⟩
def recL (s : Sc) (rv ev : Value) : List Value := [.int .i64 s.kind, .string s.low, .string s.high, .bool s.unb, .int .i64 s.right, rv, ev, .string s.key, .string s.value, .int .i64 s.page, .int .i64 s.hp, .int .i64 s.hl, .string s.hk, .int .i64 s.ns, .int .i64 s.ng]
theorem DB.recd {n : Nat} {verb : Int} {s : Sc} {rv en : Value} {x y : Int} {last : Bool} {nn : Int} {w : World} (h : DB n verb s rv en x y last nn w) : w.rangeAt n 1 (recL s rv en) := fun j u hj => by
  have hlt : j < 15 := (List.getElem?_eq_some_iff.1 hj).1
  match j, hlt, hj with
  | 0, _, hj => obtain rfl := Option.some.inj hj; exact h.c1
  | 1, _, hj => obtain rfl := Option.some.inj hj; exact h.c2
  | 2, _, hj => obtain rfl := Option.some.inj hj; exact h.c3
  | 3, _, hj => obtain rfl := Option.some.inj hj; exact h.c4
  | 4, _, hj => obtain rfl := Option.some.inj hj; exact h.c5
  | 5, _, hj => obtain rfl := Option.some.inj hj; exact h.c6
  | 6, _, hj => obtain rfl := Option.some.inj hj; exact h.c7
  | 7, _, hj => obtain rfl := Option.some.inj hj; exact h.c8
  | 8, _, hj => obtain rfl := Option.some.inj hj; exact h.c9
  | 9, _, hj => obtain rfl := Option.some.inj hj; exact h.c10
  | 10, _, hj => obtain rfl := Option.some.inj hj; exact h.c11
  | 11, _, hj => obtain rfl := Option.some.inj hj; exact h.c12
  | 12, _, hj => obtain rfl := Option.some.inj hj; exact h.c13
  | 13, _, hj => obtain rfl := Option.some.inj hj; exact h.c14
  | 14, _, hj => obtain rfl := Option.some.inj hj; exact h.c15
theorem okD_in {ds : List DoD} {sl : Int} (h : fewD sl ds = true) {d : DoD} (hd : d ∈ ds) : d.rows.length ≤ 60 ∧ d.ents.length ≤ 60 := by
  unfold fewD at h
  simp only [Bool.and_eq_true, List.all_eq_true, decide_eq_true_eq] at h
  exact h.1.1 d hd
theorem okD_len {ds : List DoD} {sl : Int} (h : fewD sl ds = true) : ds.length ≤ 60 := by
  unfold fewD at h
  simp only [Bool.and_eq_true, decide_eq_true_eq] at h
  exact h.1.2
/-- behind a call that makes memory of its own alone: an arena, and what lies outside its footprint -/
structure Ar (C : ArC) (w w1 : World) (a : Addr) (S : Nat → Prop) (n l : Nat) (ps : List Pt) : Prop where
  inv : C.Inv w1 a S n l ps
  base : ∀ k, S k → w.heap.size ≤ k
  low : Below w.heap.size w w1
theorem Ar.step {C : ArC} {w w1 w2 : World} {a : Addr} {S : Nat → Prop} {n l : Nat} {ps : List Pt} (h : Ar C w w1 a S n l ps) (hs : Below w1.heap.size w1 w2) : Ar C w w2 a S n l ps := ⟨C.step h.inv hs, h.base, h.low.trans (hs.mono h.low.size)⟩
theorem Ar.turn {C : ArC} {w w1 w2 : World} {a : Addr} {S S2 : Nat → Prop} {n l : Nat} {ps ps2 : List Pt} (h : Ar C w w1 a S n l ps) (hi : C.Inv w2 a S2 n l ps2) (hk : Kept S w1 w2) (hS : ∀ k, S2 k → S k ∨ w1.heap.size ≤ k) : Ar C w w2 a S2 n l ps2 := by
  have t := mut_step h.base h.low h.low.size hk hS
  exact ⟨hi, t.2.1, t.1⟩
set_option maxRecDepth 100000 in
set_option maxHeartbeats 4000000 in
theorem lawCounts (C : ArC) (sl : Int) (v : Value) (ds : List DoD) (w : World) (hv : DosV w v ds) :
    Calls Try.prog 7 #[.int .i64 sl, v] w fun ev w' => ev = .returned (.bool true) ∧ Below w.heap.size w w' := by
  have hnot : ∀ (x : Bool) (w : World), (Op.unary .not (.bool x)).run Try.prog w = .ok (.bool (!x)) w := fun _ _ => rfl
  have V := Lib.hid hv
  obtain ⟨va, vc, rfl, hlc, hcm⟩ := hv.1.lenform
  obtain ⟨N, hN⟩ : ∃ n, ds.length = n := ⟨_, rfl⟩
  have LN := Lib.hid hN
  rw [hN] at V hlc ⊢
  unfold maxLen at hcm
  clear hv hN
  go_enter Try.func7, Try.ntmps7
  go_wp2_with fail
  refine (few_any sl _ ds _ V.out).mono ?_
  rintro ev w1 ⟨rfl, hs⟩
  have B1 := Lib.hid hs
  clear hs
  cases hf : fewD sl ds with
  | false =>
    go_wp2_with fail
    refine (awakeA C _).mono ?_
    rintro ev w2 ⟨rfl, hs⟩
    have B2 := Lib.hid (B1.out.trans (hs.mono B1.out.size))
    clear hs
    go_wp2
    go_ret
    exact ⟨rfl, B2.out⟩
  | true =>
    have F := Lib.hid hf
    clear hf
    by_cases h1 : sl < 1
    · go_wp2_with fail
      refine (awakeA C _).mono ?_
      rintro ev w2 ⟨rfl, hs⟩
      have B2 := Lib.hid (B1.out.trans (hs.mono B1.out.size))
      clear hs
      go_wp2
      go_ret
      exact ⟨rfl, B2.out⟩
    · by_cases h2 : 60 < sl
      · go_wp2_with fail
        refine (awakeA C _).mono ?_
        rintro ev w2 ⟨rfl, hs⟩
        have B2 := Lib.hid (B1.out.trans (hs.mono B1.out.size))
        clear hs
        go_wp2
        go_ret
        exact ⟨rfl, B2.out⟩
      · obtain ⟨n, rfl⟩ : ∃ n : Nat, sl = n := ⟨sl.toNat, by omega⟩
        have ok := Lib.hid (show okN (n : Int) ((1099511627776 : Nat) : Int) = true by unfold okN; simp; omega)
        have n1 : n ≤ 60 := by omega
        have NN := Lib.hid (okD_len F.out)
        go_wp2_with fail
        refine (C.new n 1099511627776 _ ok.out).mono ?_
        rintro ev w2 ⟨a, S1, rfl, hI, hS, hs⟩
        have A1 := Lib.hid (show Ar C w w2 a S1 n 1099511627776 [] from ⟨hI, fun k hk => Nat.le_trans B1.out.size (hS k hk), B1.out.trans (hs.mono B1.out.size)⟩)
        clear hI hS hs ok
        go_wp2
        go_loopg [30] N (fun r i wz => ∃ (k : Nat) (S : Nat → Prop) (ps : List Pt), k + r = N ∧ i = .int .i64 k ∧ Ar C w wz a S n 1099511627776 ps ∧ Valid n ps ∧ Young k ps)
        case atStart => exact ⟨0, S1, [], by omega, rfl, A1.out, Valid.nil n, Young.nil⟩
        case round =>
          obtain ⟨k, S, ps, hk, rfl, hA, hV, hY⟩ := hrel
          have A := Lib.hid (show Ar C w wr a S n 1099511627776 ps ∧ Valid n ps ∧ Young k ps ∧ k + gk = N from ⟨hA, hV, hY, hk⟩)
          clear hA hV hY
          by_cases hlt : k < N
          · have KN := Lib.hid (show k < 60 by have := NN.out; have := LN.out; omega)
            obtain ⟨b, off, ha⟩ := V.out.1.addr (by rw [LN.out]; omega)
            subst ha
            obtain ⟨d, hx⟩ : ∃ d, ds[k]? = some d := ⟨_, List.getElem?_eq_getElem (by rw [LN.out]; exact hlt)⟩
            have hrng : wr.rangeAt b (off + k * 20) d.cells := fun j v hj => cell_step (V.out.1.cellAt (j := j) hx hj) A.out.1.low
            have M := Lib.hid (show d ∈ ds from List.mem_of_getElem? hx)
            have BN := Lib.hid (show ¬ S wr.heap.size from fun h => Nat.lt_irrefl _ (C.foot A.out.1.inv _ h))
            clear hx
            go_wp2_with (first
              | (refine wpList_load_mid rfl 38 (.tmp 32) rfl b (off + k * 20) rfl d.cells _ hrng Try.underlying38 rfl (by kernel_rfl) ?_)
              | (refine wpList_store_mid rfl 38 (.tmp 7) (.tmp 33) rfl wr.heap.size 0 d.cells.toArray rfl rfl (there_new wr _ _) (by kernel_rfl) (all_oneCell_toArray d.cells_one) ?_
                 generalize hw2 : World.setCells _ _ _ _ = w3
                 have hq := Lib.hid (show Below wr.heap.size wr w3 ∧ w3.rangeAt wr.heap.size 0 d.cells by rw [← hw2]; exact put_new wr _ _ d.cells rfl)
                 clear hw2))
            have D3 := Lib.hid (DB.of_range hq.out.2)
            have A3 := Lib.hid (A.out.1.step hq.out.1)
            clear hq hrng
            refine (C.left a S n 1099511627776 ps _ A3.out.inv).mono ?_
            rintro ev w4 ⟨rfl, hs⟩
            have D4 := Lib.hid (D3.out.step hs)
            have A4 := Lib.hid (A3.out.step hs)
            clear hs D3 A3
            go_wp2_with fail
            refine (C.live a S n 1099511627776 ps _ A4.out.inv).mono ?_
            rintro ev w5 ⟨lv, rfl, hlv, hs⟩
            obtain ⟨la, lc, rfl, -, -⟩ := hlv.sv.lenform
            have D5 := Lib.hid (D4.out.step hs)
            have A5 := Lib.hid (A4.out.step hs)
            clear hs hlv D4 A4
            have YS := Lib.hid (young_sum (n := n) A.out.2.2.1 (show k < 1099511627776 by have := KN.out; omega))
            obtain ⟨lf, hlf⟩ : ∃ x, leftM n 1099511627776 ps = x := ⟨_, rfl⟩
            obtain ⟨lw, hlw⟩ : ∃ x, (liveM n ps).length = x := ⟨_, rfl⟩
            have LF := Lib.hid (show leftM n 1099511627776 ps = lf ∧ (liveM n ps).length = lw ∧ lf + lw = n from ⟨hlf, hlw, by rw [← hlf, ← hlw]; exact YS.out⟩)
            rw [hlf, hlw]
            clear hlf hlw YS
            have q1 : IntKind.i64.wrap ((lf : Int) + (lw : Int)) = (n : Int) := by rw [show (lf : Int) + (lw : Int) = n by have := LF.out.2.2; omega]; exact Go.IntWalk.i64_in _ (by omega)
            have v0 := D5.out.c0
            by_cases hvb : d.verb = 0
            · rw [hvb] at v0
              have hrec := D5.out.recd
              have RV := Lib.hid (show RecV w5 (.agg (recL d.sc (.slice d.ra d.rows.length d.rc) (.slice d.ea d.ents.length d.ec)).toArray) d.rcd from ⟨_, _, rfl, (V.out.2 d M.out).1.below A5.out.low, (V.out.2 d M.out).2.below A5.out.low⟩)
              have LL := Lib.hid (show d.rcd.rows.length ≤ 1000 ∧ d.rcd.ents.length ≤ 1000 from ⟨by have := (okD_in F.out M.out).1; show d.rows.length ≤ 1000; omega, by have := (okD_in F.out M.out).2; show d.ents.length ≤ 1000; omega⟩)
              rcases alloc_counts d.rcd A.out.2.1 A.out.2.2.1 (show k + 1 < 1099511627776 by have := KN.out; omega) with ⟨i, g, t1, t2, t3, t4, t5, -⟩ | ⟨e, t1, t2, t3, t4, -⟩
              · obtain ⟨m, hm⟩ : ∃ m, lf = m + 1 := ⟨lf - 1, by have := LF.out.1; omega⟩
                have T := Lib.hid (show allocM n 1099511627776 ps = (i, g, 0) ∧ leftM n 1099511627776 (putM n 1099511627776 ps d.rcd) = m ∧ Valid n (putM n 1099511627776 ps d.rcd) ∧ Young (k + 1) (putM n 1099511627776 ps d.rcd) from ⟨t1, by have := LF.out.1; omega, t4, t5⟩)
                have e5 : (0 : Int) < (lf : Int) := by omega
                have i2 : IntKind.i64.wrap ((lf : Int) - 1) = (m : Int) := by rw [show (lf : Int) - 1 = m by omega]; exact Go.IntWalk.i64_in _ (by have := LF.out.2.2; omega)
                clear t1 t2 t3 t4 t5 hvb hm
                go_wp2_with (refine wpList_load_mid rfl 36 (.tmp 49) rfl wr.heap.size 1 rfl (recL d.sc (.slice d.ra d.rows.length d.rc) (.slice d.ea d.ents.length d.ec)) _ hrec Try.underlying36 rfl (by kernel_rfl) ?_)
                refine (alloc_as C a _ S n 1099511627776 ps d.rcd i g 0 i g .nilIface _ _ A5.out.inv RV.out LL.out.1 LL.out.2 T.out.1 rfl rfl rfl rfl).mono ?_
                rintro ev w6 ⟨S2, rfl, hI, hk2, hS⟩
                have A6 := Lib.hid (A5.out.turn hI hk2 hS)
                have A7 := Lib.hid (A6.out.step (alloc_below0 w6 (.cells #[.int .i64 (i : Int), .int .i64 (g : Int)] 34)))
                clear hI hk2 hS A6 v0 hrec
                go_wp2_with fail
                refine (C.left a S2 n 1099511627776 _ _ A7.out.inv).mono ?_
                rintro ev w8 ⟨rfl, hs⟩
                rw [T.out.2.1]
                have A8 := Lib.hid (A7.out.step hs)
                clear hs A7
                go_wp2
                go_roundg (N - (k + 1))
                case measure => have := A.out.2.2.2; omega
                case rel => exact ⟨k + 1, S2, _, by omega, by go_num, A8.out, T.out.2.2.1, T.out.2.2.2⟩
              · have e5 : ¬ (0 : Int) < (lf : Int) := by have := LF.out.1; omega
                have T := Lib.hid (show allocM n 1099511627776 ps = (0, 0, e) ∧ errV e = .iface 48 (.int .i64 e) from ⟨t1, by rcases t2 with rfl | rfl <;> rfl⟩)
                clear t1 t2 t3 hvb
                go_wp2_with (refine wpList_load_mid rfl 36 (.tmp 49) rfl wr.heap.size 1 rfl (recL d.sc (.slice d.ra d.rows.length d.rc) (.slice d.ea d.ents.length d.ec)) _ hrec Try.underlying36 rfl (by kernel_rfl) ?_)
                refine (alloc_as C a _ S n 1099511627776 ps d.rcd 0 0 e 0 0 (.iface 48 (.int .i64 e)) ps _ A5.out.inv RV.out LL.out.1 LL.out.2 T.out.1 t4 rfl rfl T.out.2).mono ?_
                rintro ev w6 ⟨S2, rfl, hI, hk2, hS⟩
                have A6 := Lib.hid (A5.out.turn hI hk2 hS)
                have A7 := Lib.hid (A6.out.step (alloc_below0 w6 (.cells #[.int .i64 0, .int .i64 0] 34)))
                clear hI hk2 hS A6 v0 hrec
                go_wp2
                go_roundg (N - (k + 1))
                case measure => have := A.out.2.2.2; omega
                case rel => exact ⟨k + 1, S2, _, by omega, by go_num, A7.out, A.out.2.1, A.out.2.2.1.mono (Nat.le_succ k)⟩
            · have v16 := D5.out.c16
              have v17 := D5.out.c17
              have hvb2 : (d.verb == 0) = false := by simp [hvb]
              rcases free_counts (n := n) A.out.2.1 A.out.2.2.1 (show k < 1099511627776 by have := KN.out; omega) d.x d.y with ⟨t1, t2, t3, t4, t5⟩ | ⟨t1, t2⟩
              · obtain ⟨m, hm⟩ : ∃ m, lw = m + 1 := ⟨lw - 1, by have := LF.out.2.1; omega⟩
                have T := Lib.hid (show leftM n 1099511627776 (freeM n ps d.x d.y) = lf + 1 ∧ (liveM n (freeM n ps d.x d.y)).length = m ∧ Valid n (freeM n ps d.x d.y) ∧ Young k (freeM n ps d.x d.y) from ⟨by have := LF.out.1; omega, by have := LF.out.2.1; omega, t4, t5⟩)
                have T1 := Lib.hid t1
                have i2 : IntKind.i64.wrap ((lw : Int) - 1) = (m : Int) := by rw [show (lw : Int) - 1 = m by omega]; exact Go.IntWalk.i64_in _ (by have := LF.out.2.2; omega)
                have i3 : IntKind.i64.wrap ((lf : Int) + 1) = (lf : Int) + 1 := Go.IntWalk.i64_in _ (by have := LF.out.2.2; omega)
                clear t1 t2 t3 t4 t5 hvb hm
                go_wp2_with fail
                refine (free_as C a S n 1099511627776 ps d.x d.y 0 .nilIface _ _ A5.out.inv T1.out rfl rfl).mono ?_
                rintro ev w6 ⟨S2, rfl, hI, hk2, hS⟩
                have A6 := Lib.hid (A5.out.turn hI hk2 hS)
                clear hI hk2 hS v0 v16 v17
                go_wp2_with fail
                refine (C.left a S2 n 1099511627776 _ _ A6.out.inv).mono ?_
                rintro ev w8 ⟨rfl, hs⟩
                rw [T.out.1]
                have A8 := Lib.hid (A6.out.step hs)
                clear hs A6
                go_wp2_with fail
                refine (C.live a S2 n 1099511627776 _ _ A8.out.inv).mono ?_
                rintro ev w9 ⟨lv2, rfl, hlv, hs⟩
                obtain ⟨la2, lc2, rfl, -, -⟩ := hlv.sv.lenform
                rw [T.out.2.1]
                have A9 := Lib.hid (A8.out.step hs)
                clear hs A8 hlv
                go_wp2
                go_roundg (N - (k + 1))
                case measure => have := A.out.2.2.2; omega
                case rel => exact ⟨k + 1, S2, _, by omega, by go_num, A9.out, T.out.2.2.1, T.out.2.2.2.mono (Nat.le_succ k)⟩
              · obtain ⟨e, he⟩ : ∃ e, codeM n ps d.x d.y = e := ⟨_, rfl⟩
                rw [he] at t1
                have T := Lib.hid (show codeM n ps d.x d.y = e ∧ errV e = .iface 48 (.int .i64 e) ∧ leftM n 1099511627776 ps = lf from ⟨he, by rcases t1 with rfl | rfl <;> rfl, LF.out.1⟩)
                clear t1 hvb he
                go_wp2_with fail
                refine (free_as C a S n 1099511627776 ps d.x d.y e (.iface 48 (.int .i64 e)) ps _ A5.out.inv T.out.1 t2 T.out.2.1).mono ?_
                rintro ev w6 ⟨S2, rfl, hI, hk2, hS⟩
                have A6 := Lib.hid (A5.out.turn hI hk2 hS)
                clear hI hk2 hS v0 v16 v17
                go_wp2_with fail
                refine (C.left a S2 n 1099511627776 _ _ A6.out.inv).mono ?_
                rintro ev w8 ⟨rfl, hs⟩
                rw [T.out.2.2]
                have A8 := Lib.hid (A6.out.step hs)
                clear hs A6
                go_wp2
                go_roundg (N - (k + 1))
                case measure => have := A.out.2.2.2; omega
                case rel => exact ⟨k + 1, S2, _, by omega, by go_num, A8.out, A.out.2.1, A.out.2.2.1.mono (Nat.le_succ k)⟩
          · go_wp2_with fail
            refine (awakeA C _).mono ?_
            rintro ev w3 ⟨rfl, hs⟩
            have B3 := Lib.hid (A.out.1.low.trans (hs.mono A.out.1.low.size))
            clear hs
            go_wp2
            go_ret
            exact ⟨rfl, B3.out⟩
end Go.Proofs.Ytkokpbkpmhhemaa
