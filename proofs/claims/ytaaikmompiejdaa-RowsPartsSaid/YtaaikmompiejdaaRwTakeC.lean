/- Package rows' own functions (layer 3), by contracts: Take, and its closure. -/
import Derived.Test.YtaaikmompiejdaaRwRight
namespace Go.Proofs.Ytaaikmompiejdaa
open Go.RowKit

/-- what is taken behind k rounds, with no limit -/
def tak (low high : ByteArray) (unb rev : Bool) (rs : List Rw) (k : Nat) : List Rw := ((if rev then rs.reverse else rs).take k).filter (inR low high unb)
/-- the row of round k -/
def rowAt (rev : Bool) (rs : List Rw) (k : Nat) : Rw := if rev then rs.getD (rs.length - 1 - k) r0 else rs.getD k r0
theorem turn_at (rev : Bool) (rs : List Rw) (k : Nat) (hk : k < rs.length) : (if rev then rs.reverse else rs).getD k r0 = rowAt rev rs k := by
  unfold rowAt
  cases rev with
  | false => rfl
  | true =>
    show rs.reverse.getD k r0 = rs.getD (rs.length - 1 - k) r0
    rw [List.getD, List.getD, List.getElem?_reverse hk]
theorem turn_len (rev : Bool) (rs : List Rw) : (if rev then rs.reverse else rs).length = rs.length := by cases rev <;> simp
theorem tak_no {low high : ByteArray} {unb rev : Bool} {rs : List Rw} {k : Nat} (hk : k < rs.length) (h : inR low high unb (rowAt rev rs k) = false) : tak low high unb rev rs (k + 1) = tak low high unb rev rs k := by
  unfold tak
  rw [take_at (by rw [turn_len]; exact hk), List.filter_append, turn_at rev rs k hk, List.filter_cons, if_neg (show ¬ inR low high unb (rowAt rev rs k) = true by rw [h]; simp), List.filter_nil, List.append_nil]
theorem tak_yes {low high : ByteArray} {unb rev : Bool} {rs : List Rw} {k : Nat} (hk : k < rs.length) (h : inR low high unb (rowAt rev rs k) = true) : tak low high unb rev rs (k + 1) = tak low high unb rev rs k ++ [rowAt rev rs k] := by
  unfold tak
  rw [take_at (by rw [turn_len]; exact hk), List.filter_append, turn_at rev rs k hk, List.filter_cons, if_pos h, List.filter_nil]
theorem tak_all (low high : ByteArray) (unb rev : Bool) (rs : List Rw) : tak low high unb rev rs rs.length = accR low high unb rev rs := by
  unfold tak accR
  rw [List.take_of_length_le (by rw [turn_len]; exact Nat.le_refl _)]
  cases rev with
  | false => rfl
  | true =>
    show List.filter _ rs.reverse = (List.filter _ rs).reverse
    rw [List.filter_reverse]
theorem tak_stop {low high : ByteArray} {unb rev : Bool} {rs : List Rw} {k : Nat} : (accR low high unb rev rs).take (tak low high unb rev rs k).length = tak low high unb rev rs k := by
  have h : accR low high unb rev rs = tak low high unb rev rs k ++ ((if rev then rs.reverse else rs).drop k).filter (inR low high unb) := by
    rw [← tak_all]
    unfold tak
    rw [← List.filter_append, List.take_append_drop, List.take_of_length_le (by rw [turn_len]; exact Nat.le_refl _)]
  rw [h, List.take_left]
theorem tak_small {low high : ByteArray} {unb rev : Bool} {rs : List Rw} (h : Small rs) (k : Nat) : Small (tak low high unb rev rs k) := by
  unfold tak
  refine Small.filter (Small.take ?_ k) _
  cases rev with
  | false => exact h
  | true => exact h.reverse
theorem tak_len (low high : ByteArray) (unb rev : Bool) (rs : List Rw) (k : Nat) : (tak low high unb rev rs k).length ≤ k := by
  unfold tak
  refine Nat.le_trans (List.length_filter_le _ _) ?_
  rw [List.length_take]
  exact Nat.min_le_left _ _
theorem takeR_stop {low high : ByteArray} {unb rev : Bool} {rs : List Rw} {k : Nat} {limit : Int} (h1 : 1 ≤ limit) (h : ((tak low high unb rev rs k).length : Int) = limit) : takeR low high unb rev limit rs = tak low high unb rev rs k := by
  unfold takeR
  rw [if_pos h1, show limit.toNat = (tak low high unb rev rs k).length by omega, tak_stop]
theorem takeR_end {low high : ByteArray} {unb rev : Bool} {rs : List Rw} {limit : Int} (h : 1 ≤ limit → ((tak low high unb rev rs rs.length).length : Int) ≤ limit) : takeR low high unb rev limit rs = tak low high unb rev rs rs.length := by
  unfold takeR
  split
  · rename_i h1
    rw [← tak_all, List.take_of_length_le (by have := h h1; omega)]
  · rw [← tak_all]

theorem wanted_any (low high : ByteArray) (unb : Bool) (k x : ByteArray) (g : Nat) (w : World) (s : SB g low high unb w) :
    Calls Try.prog 45 #[.agg #[.string k, .string x], .pointer (some ⟨g, 0, none⟩)] w fun ev w' => ev = .returned (.bool (inR low high unb (k, x))) ∧ Below w.heap.size w w' := by
  have S1 := s.step (alloc_below0 w (.cells #[.string k, .string x] 30))
  have c0 := S1.c0
  have c1 := S1.c1
  have c2 := S1.c2
  have B := Lib.hid (alloc_below0 w (.cells #[.string k, .string x] 30))
  clear s S1
  go_enter Try.func45, Try.ntmps45
  go_wp2_with fail
  refine (inside_any low high k unb _).mono ?_
  rintro ev w1 ⟨rfl, rfl⟩
  go_wp2
  go_ret
  exact ⟨rfl, B.out⟩
set_option maxRecDepth 100000 in
set_option maxHeartbeats 4000000 in
theorem take_any (v : Value) (rs : List Rw) (low high : ByteArray) (unb rev : Bool) (limit : Int) (w : World) (hv : RowsV w v rs) (hl : rs.length ≤ 1000) :
    Calls Try.prog 32 #[v, .agg #[.string low, .string high, .bool unb], .int .i64 limit, .bool rev] w fun ev w' => ∃ v', ev = .returned v' ∧ RowsV w' v' (takeR low high unb rev limit rs) ∧ Below w.heap.size w w' := by
  have hmf : ∀ (fn : Fn) (first cap : Array Value) (w : World), (Instr.makeFunc fn first cap).run Try.prog w = .ok (.func fn first cap) w := fun _ _ _ _ => rfl
  have BZ := Lib.hid (alloc_below0 w (.cells #[.string low, .string high, .bool unb] 54))
  have W := Lib.hid (show ∀ wr, Below (w.heap.size + 1) (w.alloc (.cells #[.string low, .string high, .bool unb] 54)) wr → SB w.heap.size low high unb wr ∧ Below w.heap.size w wr ∧ w.heap.size + 1 ≤ wr.heap.size from fun wr h =>
    ⟨(SB.new low high unb w 54).step (by simpa using h), BZ.out.trans (h.mono (by omega)), by simpa using h.size⟩)
  rcases hv.form with ⟨rfl, rfl⟩ | ⟨b, off, cap, rfl, hlc, hcm, hc⟩
  · have hT : takeR low high unb rev limit [] = [] := by unfold takeR accR; cases rev <;> split <;> simp
    rw [hT]
    clear hv
    go_enter Try.func32, Try.ntmps32
    go_wp2
    refine wp_loop_rounds 1 ?_
    rw [rounds_succ]
    go_wp2
    go_ret
    exact ⟨_, rfl, RowsV.nil _, BZ.out⟩
  · have C : Aside (∀ i, i < rs.length → w.cell? ⟨b, off + i * 2, none⟩ = some (.string (rs.getD i r0).1) ∧ w.cell? ⟨b, off + i * 2 + 1, none⟩ = some (.string (rs.getD i r0).2)) := hc
    have V : Aside (Small rs ∧ rs.length ≤ 1000) := ⟨hv.small, hl⟩
    unfold maxLen at hcm
    clear hv hc
    go_enter Try.func32, Try.ntmps32
    go_wp2
    go_loopg [9, 16] rs.length (fun m va i wr => ∃ k : Nat, k + m = rs.length ∧ i = .int .i64 k ∧ OwnR (w.heap.size + 1) wr va (tak low high unb rev rs k) ∧ Below (w.heap.size + 1) (w.alloc (.cells #[.string low, .string high, .bool unb] 54)) wr ∧ (1 ≤ limit → ((tak low high unb rev rs k).length : Int) ≤ limit))
    case atStart => exact ⟨0, by omega, rfl, by unfold tak; simpa using OwnR.nil _ _, Below.refl _ _, fun h => by unfold tak; simp; omega⟩
    case round =>
      obtain ⟨k, hk, rfl, ho, hB, hlim⟩ := hrel
      have X := Lib.hid (W.out _ hB)
      have BB := Lib.hid hB
      have A : Aside (OwnR (w.heap.size + 1) wr _ (tak low high unb rev rs k) ∧ SB w.heap.size low high unb wr ∧ Below w.heap.size w wr ∧ k + gk = rs.length ∧ (1 ≤ limit → ((tak low high unb rev rs k).length : Int) ≤ limit)) := ⟨ho, X.out.1, X.out.2.1, hk, hlim⟩
      clear ho hB hlim
      have R := Lib.hid (A.out.1.rows (tak_small V.out.1 k))
      obtain ⟨a, c, hva, hqc, hcm2⟩ := R.out.lenform
      subst hva
      obtain ⟨q, hq⟩ : ∃ q, (tak low high unb rev rs k).length = q := ⟨_, rfl⟩
      have Q := Lib.hid hq
      rw [hq] at A R hqc
      rw [hq]
      unfold maxLen at hcm2
      clear hq
      by_cases hlt : k < rs.length
      · by_cases hstop : 1 ≤ limit ∧ (q : Int) = limit
        · obtain ⟨hs1, hs2⟩ := hstop
          have E := Lib.hid (takeR_stop (low := low) (high := high) (unb := unb) (rev := rev) (rs := rs) (k := k) hs1 (by rw [Q.out]; exact hs2))
          have hs3 : ((q : Int) == limit) = true := by simpa using hs2
          clear hs2
          go_wp2
          go_ret
          exact ⟨_, rfl, by rw [E.out]; exact R.out, A.out.2.2.1⟩
        · have x0 : wr.cell? ⟨b, off + k * 2, none⟩ = some (.string (rs.getD k r0).1) := (A.out.2.2.1.cell (p := ⟨b, off + k * 2, none⟩) (lt_of_cell (C.out k hlt).1)).trans (C.out k hlt).1
          have x1 : wr.cell? ⟨b, off + k * 2 + 1, none⟩ = some (.string (rs.getD k r0).2) := (A.out.2.2.1.cell (p := ⟨b, off + k * 2 + 1, none⟩) (lt_of_cell (C.out k hlt).2)).trans (C.out k hlt).2
          have ST := Lib.hid hstop
          have Tn := Lib.hid (tak_no (low := low) (high := high) (unb := unb) (rev := rev) hlt)
          have Ty := Lib.hid (tak_yes (low := low) (high := high) (unb := unb) (rev := rev) hlt)
          have hkc : (k : Int) ≤ 1000 := by have := V.out.2; omega
          have LM := Lib.hid (show q ≤ k ∧ k < 1000 from ⟨by rw [← Q.out]; exact tak_len _ _ _ _ _ _, by have := V.out.2; omega⟩)
          cases rev with
          | false =>
            obtain ⟨⟨x, y⟩, hxy⟩ : ∃ r, rs.getD k r0 = r := ⟨_, rfl⟩
            have XY := Lib.hid (show rowAt false rs k = (x, y) from hxy)
            have M := Lib.hid (show x.size ≤ maxLen ∧ y.size ≤ maxLen by have := V.out.1.at k; rw [hxy] at this; exact this)
            rw [hxy] at x0 x1
            clear hxy hstop
            by_cases hlm : 1 ≤ limit
            · have hs4 : ((q : Int) == limit) = false := by
                rw [beq_eq_false_iff_ne]
                exact fun e => ST.out ⟨hlm, e⟩
              cases hi : inR low high unb (x, y) with
              | false =>
                have H := Lib.hid hi
                have K := Lib.hid (show inR low high unb (rowAt false rs k) = false by rw [XY.out]; exact hi)
                clear hi
                go_wp2_with (go_at_call 45; (with_reducible refine (wanted_any low high unb x y _ _ (A.out.2.1.step (alloc_below0 wr (.cells #[.string x, .string y] 30)))).mono ?_); rintro ev w2 ⟨rfl, hs⟩; rw [H.out]; have B2 := Lib.hid ((alloc_below0 wr (.cells #[.string x, .string y] 30)).trans (hs.mono (alloc_below0 wr _).size)); have O2 := Lib.hid (A.out.1.below B2.out); have F2 := Lib.hid (BB.out.trans (B2.out.mono X.out.2.2)); have N2 := Lib.hid (Nat.le_trans X.out.2.2 B2.out.size); have P2 := Lib.hid ((PB.new x y wr 30).step hs); have q0 := P2.out.c0; have q1 := P2.out.c1; clear hs)
                go_roundg (rs.length - (k + 1))
                case measure => have := A.out.2.2.2.1; omega
                case rel => exact ⟨k + 1, by omega, by go_num, by rw [Tn.out K.out]; exact O2.out, F2.out, by rw [Tn.out K.out, Q.out]; exact A.out.2.2.2.2⟩
              | true =>
                have H := Lib.hid hi
                have K := Lib.hid (show inR low high unb (rowAt false rs k) = true by rw [XY.out]; exact hi)
                clear hi
                go_wp2_with (first | (go_at_call 45; (with_reducible refine (wanted_any low high unb x y _ _ (A.out.2.1.step (alloc_below0 wr (.cells #[.string x, .string y] 30)))).mono ?_); rintro ev w2 ⟨rfl, hs⟩; rw [H.out]; have B2 := Lib.hid ((alloc_below0 wr (.cells #[.string x, .string y] 30)).trans (hs.mono (alloc_below0 wr _).size)); have O2 := Lib.hid (A.out.1.below B2.out); have F2 := Lib.hid (BB.out.trans (B2.out.mono X.out.2.2)); have N2 := Lib.hid (Nat.le_trans X.out.2.2 B2.out.size); have P2 := Lib.hid ((PB.new x y wr 30).step hs); have q0 := P2.out.c0; have q1 := P2.out.c1; clear hs) | (at_builtin; go_must (refine wpList_app rfl (.tmp 43) (.tmp 45) rfl (w.heap.size + 1) rfl rfl (O2.out.alloc _) (RowsV.one w2 _ rfl x y M.out.1 M.out.2) (by rw [Q.out]; simp; have := LM.out; omega) (by have := N2.out; simp; omega) ?_)))
                intro v3 w3 ho hg
                have B3 := Lib.hid (app_below (F2.out.trans ((alloc_below0 w2 (.cells #[.string x, .string y] 30)).mono N2.out)) (O2.out.alloc _) (Nat.le_refl _) (by have := N2.out; simp; omega) hg)
                have G := Lib.hid (show OwnR (w.heap.size + 1) w3 v3 (tak low high unb false rs (k + 1)) from by rw [Ty.out K.out, XY.out]; exact ho)
                have L3 := Lib.hid (show 1 ≤ limit → ((tak low high unb false rs (k + 1)).length : Int) ≤ limit from fun h => by rw [Ty.out K.out, List.length_append, Q.out]; have := A.out.2.2.2.2 h; have h2 := ST.out; simp; omega)
                clear ho hg q0 q1
                go_wp2
                go_roundg (rs.length - (k + 1))
                case measure => have := A.out.2.2.2.1; omega
                case rel => exact ⟨k + 1, by omega, by go_num, G.out, B3.out, L3.out⟩
            · cases hi : inR low high unb (x, y) with
              | false =>
                have H := Lib.hid hi
                have K := Lib.hid (show inR low high unb (rowAt false rs k) = false by rw [XY.out]; exact hi)
                clear hi
                go_wp2_with (go_at_call 45; (with_reducible refine (wanted_any low high unb x y _ _ (A.out.2.1.step (alloc_below0 wr (.cells #[.string x, .string y] 30)))).mono ?_); rintro ev w2 ⟨rfl, hs⟩; rw [H.out]; have B2 := Lib.hid ((alloc_below0 wr (.cells #[.string x, .string y] 30)).trans (hs.mono (alloc_below0 wr _).size)); have O2 := Lib.hid (A.out.1.below B2.out); have F2 := Lib.hid (BB.out.trans (B2.out.mono X.out.2.2)); have N2 := Lib.hid (Nat.le_trans X.out.2.2 B2.out.size); have P2 := Lib.hid ((PB.new x y wr 30).step hs); have q0 := P2.out.c0; have q1 := P2.out.c1; clear hs)
                go_roundg (rs.length - (k + 1))
                case measure => have := A.out.2.2.2.1; omega
                case rel => exact ⟨k + 1, by omega, by go_num, by rw [Tn.out K.out]; exact O2.out, F2.out, by rw [Tn.out K.out, Q.out]; exact A.out.2.2.2.2⟩
              | true =>
                have H := Lib.hid hi
                have K := Lib.hid (show inR low high unb (rowAt false rs k) = true by rw [XY.out]; exact hi)
                clear hi
                go_wp2_with (first | (go_at_call 45; (with_reducible refine (wanted_any low high unb x y _ _ (A.out.2.1.step (alloc_below0 wr (.cells #[.string x, .string y] 30)))).mono ?_); rintro ev w2 ⟨rfl, hs⟩; rw [H.out]; have B2 := Lib.hid ((alloc_below0 wr (.cells #[.string x, .string y] 30)).trans (hs.mono (alloc_below0 wr _).size)); have O2 := Lib.hid (A.out.1.below B2.out); have F2 := Lib.hid (BB.out.trans (B2.out.mono X.out.2.2)); have N2 := Lib.hid (Nat.le_trans X.out.2.2 B2.out.size); have P2 := Lib.hid ((PB.new x y wr 30).step hs); have q0 := P2.out.c0; have q1 := P2.out.c1; clear hs) | (at_builtin; go_must (refine wpList_app rfl (.tmp 43) (.tmp 45) rfl (w.heap.size + 1) rfl rfl (O2.out.alloc _) (RowsV.one w2 _ rfl x y M.out.1 M.out.2) (by rw [Q.out]; simp; have := LM.out; omega) (by have := N2.out; simp; omega) ?_)))
                intro v3 w3 ho hg
                have B3 := Lib.hid (app_below (F2.out.trans ((alloc_below0 w2 (.cells #[.string x, .string y] 30)).mono N2.out)) (O2.out.alloc _) (Nat.le_refl _) (by have := N2.out; simp; omega) hg)
                have G := Lib.hid (show OwnR (w.heap.size + 1) w3 v3 (tak low high unb false rs (k + 1)) from by rw [Ty.out K.out, XY.out]; exact ho)
                have L3 := Lib.hid (show 1 ≤ limit → ((tak low high unb false rs (k + 1)).length : Int) ≤ limit from fun h => by rw [Ty.out K.out, List.length_append, Q.out]; have := A.out.2.2.2.2 h; have h2 := ST.out; simp; omega)
                clear ho hg q0 q1
                go_wp2
                go_roundg (rs.length - (k + 1))
                case measure => have := A.out.2.2.2.1; omega
                case rel => exact ⟨k + 1, by omega, by go_num, G.out, B3.out, L3.out⟩
          | true =>
            obtain ⟨j, hj⟩ : ∃ j, rs.length - 1 - k = j := ⟨_, rfl⟩
            have hjl : j < rs.length := by omega
            have hji : (rs.length : Int) - 1 - (k : Int) = (j : Int) := by omega
            have y0 : wr.cell? ⟨b, off + j * 2, none⟩ = some (.string (rs.getD j r0).1) := (A.out.2.2.1.cell (p := ⟨b, off + j * 2, none⟩) (lt_of_cell (C.out j hjl).1)).trans (C.out j hjl).1
            have y1 : wr.cell? ⟨b, off + j * 2 + 1, none⟩ = some (.string (rs.getD j r0).2) := (A.out.2.2.1.cell (p := ⟨b, off + j * 2 + 1, none⟩) (lt_of_cell (C.out j hjl).2)).trans (C.out j hjl).2
            have XY0 := Lib.hid (show rowAt true rs k = rs.getD j r0 by unfold rowAt; rw [hj]; rfl)
            obtain ⟨⟨x, y⟩, hxy⟩ : ∃ r, rs.getD j r0 = r := ⟨_, rfl⟩
            have XY := Lib.hid (show rowAt true rs k = (x, y) from XY0.out.trans hxy)
            have M := Lib.hid (show x.size ≤ maxLen ∧ y.size ≤ maxLen by have := V.out.1.at j; rw [hxy] at this; exact this)
            rw [hxy] at y0 y1
            generalize (rs.getD k r0).1 = p at *
            generalize (rs.getD k r0).2 = z at *
            have y2 := cell_step y0 (alloc_below0 wr (.cells #[.string p, .string z] 30))
            have y3 := cell_step y1 (alloc_below0 wr (.cells #[.string p, .string z] 30))
            clear hxy hstop hj XY0
            have j1 : (0 : Int) ≤ (j : Int) := by omega
            have j2 : (j : Int) < (rs.length : Int) := by omega
            by_cases hlm : 1 ≤ limit
            · have hs4 : ((q : Int) == limit) = false := by
                rw [beq_eq_false_iff_ne]
                exact fun e => ST.out ⟨hlm, e⟩
              cases hi : inR low high unb (x, y) with
              | false =>
                have H := Lib.hid hi
                have K := Lib.hid (show inR low high unb (rowAt true rs k) = false by rw [XY.out]; exact hi)
                clear hi
                go_wp2_with (go_at_call 45; (with_reducible refine (wanted_any low high unb x y _ _ (A.out.2.1.step (alloc_below0 wr (.cells #[.string x, .string y] 30)))).mono ?_); rintro ev w2 ⟨rfl, hs⟩; rw [H.out]; have B2 := Lib.hid ((alloc_below0 wr (.cells #[.string x, .string y] 30)).trans (hs.mono (alloc_below0 wr _).size)); have O2 := Lib.hid (A.out.1.below B2.out); have F2 := Lib.hid (BB.out.trans (B2.out.mono X.out.2.2)); have N2 := Lib.hid (Nat.le_trans X.out.2.2 B2.out.size); have P2 := Lib.hid ((PB.new x y wr 30).step hs); have q0 := P2.out.c0; have q1 := P2.out.c1; clear hs)
                go_roundg (rs.length - (k + 1))
                case measure => have := A.out.2.2.2.1; omega
                case rel => exact ⟨k + 1, by omega, by go_num, by rw [Tn.out K.out]; exact O2.out, F2.out, by rw [Tn.out K.out, Q.out]; exact A.out.2.2.2.2⟩
              | true =>
                have H := Lib.hid hi
                have K := Lib.hid (show inR low high unb (rowAt true rs k) = true by rw [XY.out]; exact hi)
                clear hi
                go_wp2_with (first | (go_at_call 45; (with_reducible refine (wanted_any low high unb x y _ _ (A.out.2.1.step (alloc_below0 wr (.cells #[.string x, .string y] 30)))).mono ?_); rintro ev w2 ⟨rfl, hs⟩; rw [H.out]; have B2 := Lib.hid ((alloc_below0 wr (.cells #[.string x, .string y] 30)).trans (hs.mono (alloc_below0 wr _).size)); have O2 := Lib.hid (A.out.1.below B2.out); have F2 := Lib.hid (BB.out.trans (B2.out.mono X.out.2.2)); have N2 := Lib.hid (Nat.le_trans X.out.2.2 B2.out.size); have P2 := Lib.hid ((PB.new x y wr 30).step hs); have q0 := P2.out.c0; have q1 := P2.out.c1; clear hs) | (at_builtin; go_must (refine wpList_app rfl (.tmp 43) (.tmp 45) rfl (w.heap.size + 1) rfl rfl (O2.out.alloc _) (RowsV.one w2 _ rfl x y M.out.1 M.out.2) (by rw [Q.out]; simp; have := LM.out; omega) (by have := N2.out; simp; omega) ?_)))
                intro v3 w3 ho hg
                have B3 := Lib.hid (app_below (F2.out.trans ((alloc_below0 w2 (.cells #[.string x, .string y] 30)).mono N2.out)) (O2.out.alloc _) (Nat.le_refl _) (by have := N2.out; simp; omega) hg)
                have G := Lib.hid (show OwnR (w.heap.size + 1) w3 v3 (tak low high unb true rs (k + 1)) from by rw [Ty.out K.out, XY.out]; exact ho)
                have L3 := Lib.hid (show 1 ≤ limit → ((tak low high unb true rs (k + 1)).length : Int) ≤ limit from fun h => by rw [Ty.out K.out, List.length_append, Q.out]; have := A.out.2.2.2.2 h; have h2 := ST.out; simp; omega)
                clear ho hg q0 q1
                go_wp2
                go_roundg (rs.length - (k + 1))
                case measure => have := A.out.2.2.2.1; omega
                case rel => exact ⟨k + 1, by omega, by go_num, G.out, B3.out, L3.out⟩
            · cases hi : inR low high unb (x, y) with
              | false =>
                have H := Lib.hid hi
                have K := Lib.hid (show inR low high unb (rowAt true rs k) = false by rw [XY.out]; exact hi)
                clear hi
                go_wp2_with (go_at_call 45; (with_reducible refine (wanted_any low high unb x y _ _ (A.out.2.1.step (alloc_below0 wr (.cells #[.string x, .string y] 30)))).mono ?_); rintro ev w2 ⟨rfl, hs⟩; rw [H.out]; have B2 := Lib.hid ((alloc_below0 wr (.cells #[.string x, .string y] 30)).trans (hs.mono (alloc_below0 wr _).size)); have O2 := Lib.hid (A.out.1.below B2.out); have F2 := Lib.hid (BB.out.trans (B2.out.mono X.out.2.2)); have N2 := Lib.hid (Nat.le_trans X.out.2.2 B2.out.size); have P2 := Lib.hid ((PB.new x y wr 30).step hs); have q0 := P2.out.c0; have q1 := P2.out.c1; clear hs)
                go_roundg (rs.length - (k + 1))
                case measure => have := A.out.2.2.2.1; omega
                case rel => exact ⟨k + 1, by omega, by go_num, by rw [Tn.out K.out]; exact O2.out, F2.out, by rw [Tn.out K.out, Q.out]; exact A.out.2.2.2.2⟩
              | true =>
                have H := Lib.hid hi
                have K := Lib.hid (show inR low high unb (rowAt true rs k) = true by rw [XY.out]; exact hi)
                clear hi
                go_wp2_with (first | (go_at_call 45; (with_reducible refine (wanted_any low high unb x y _ _ (A.out.2.1.step (alloc_below0 wr (.cells #[.string x, .string y] 30)))).mono ?_); rintro ev w2 ⟨rfl, hs⟩; rw [H.out]; have B2 := Lib.hid ((alloc_below0 wr (.cells #[.string x, .string y] 30)).trans (hs.mono (alloc_below0 wr _).size)); have O2 := Lib.hid (A.out.1.below B2.out); have F2 := Lib.hid (BB.out.trans (B2.out.mono X.out.2.2)); have N2 := Lib.hid (Nat.le_trans X.out.2.2 B2.out.size); have P2 := Lib.hid ((PB.new x y wr 30).step hs); have q0 := P2.out.c0; have q1 := P2.out.c1; clear hs) | (at_builtin; go_must (refine wpList_app rfl (.tmp 43) (.tmp 45) rfl (w.heap.size + 1) rfl rfl (O2.out.alloc _) (RowsV.one w2 _ rfl x y M.out.1 M.out.2) (by rw [Q.out]; simp; have := LM.out; omega) (by have := N2.out; simp; omega) ?_)))
                intro v3 w3 ho hg
                have B3 := Lib.hid (app_below (F2.out.trans ((alloc_below0 w2 (.cells #[.string x, .string y] 30)).mono N2.out)) (O2.out.alloc _) (Nat.le_refl _) (by have := N2.out; simp; omega) hg)
                have G := Lib.hid (show OwnR (w.heap.size + 1) w3 v3 (tak low high unb true rs (k + 1)) from by rw [Ty.out K.out, XY.out]; exact ho)
                have L3 := Lib.hid (show 1 ≤ limit → ((tak low high unb true rs (k + 1)).length : Int) ≤ limit from fun h => by rw [Ty.out K.out, List.length_append, Q.out]; have := A.out.2.2.2.2 h; have h2 := ST.out; simp; omega)
                clear ho hg q0 q1
                go_wp2
                go_roundg (rs.length - (k + 1))
                case measure => have := A.out.2.2.2.1; omega
                case rel => exact ⟨k + 1, by omega, by go_num, G.out, B3.out, L3.out⟩
      · have e : k = rs.length := by omega
        have E := Lib.hid (takeR_end (low := low) (high := high) (unb := unb) (rev := rev) (rs := rs) (limit := limit) (by rw [← e, Q.out]; exact A.out.2.2.2.2))
        have R0 := R.out
        rw [e, ← E.out] at R0
        have R1 := Lib.hid R0
        clear e R0
        go_wp2
        go_ret
        exact ⟨_, rfl, R1.out, A.out.2.2.1⟩
end Go.Proofs.Ytaaikmompiejdaa
