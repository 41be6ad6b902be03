/- The document's own arena: all that was ever put, in memory; its New, slot, find, Left, by contracts. -/
import Derived.Test.YtkkmfacngmginaaDoorMm
import Derived.Test.YtkkmfacngmginaaDoorArAlloc
import Derived.Test.YtkkmfacngmginaaDoorArFew
namespace Go.Proofs.YtkkmfacngmginaaDoor
open Go.RowKit

structure PuD where
  slot : Nat
  gen : Nat
  sc : Sc
  ra : Option Addr
  rc : Nat
  ea : Option Addr
  ec : Nat
  rows : List Rw
  ents : List En
  live : Bool
def PuD.rv (d : PuD) : Value := .slice d.ra d.rows.length d.rc
def PuD.en (d : PuD) : Value := .slice d.ea d.ents.length d.ec
def PuD.pt (d : PuD) : Pt := ⟨d.slot, d.gen, ⟨d.sc, d.rows, d.ents⟩, d.live⟩
def PuD.cells (d : PuD) : List Value := [.int .i64 d.slot, .int .i64 d.gen, .int .i64 d.sc.kind, .string d.sc.low, .string d.sc.high, .bool d.sc.unb, .int .i64 d.sc.right, .slice d.ra d.rows.length d.rc, .slice d.ea d.ents.length d.ec, .string d.sc.key, .string d.sc.value, .int .i64 d.sc.page, .int .i64 d.sc.hp, .int .i64 d.sc.hl, .string d.sc.hk, .int .i64 d.sc.ns, .int .i64 d.sc.ng, .bool d.live]
theorem PuD.cells_one (d : PuD) : ∀ u ∈ d.cells, u.oneCell' = true := fun u h => by
  simp only [PuD.cells, List.mem_cons, List.not_mem_nil, or_false] at h
  rcases h with h | h | h | h | h | h | h | h | h | h | h | h | h | h | h | h | h | h <;> subst h <;> rfl
def lPut : Lay PuD := ⟨143, 18, PuD.cells, fun _ => rfl, PuD.cells_one⟩
/-- v reads as these puts, and their records read too -/
def PutsV (w : World) (v : Value) (us : List PuD) : Prop := SV lPut w v us ∧ ∀ d ∈ us, SV lRow w d.rv d.rows ∧ SV lEnt w d.en d.ents
theorem PutsV.below {w w' : World} {v : Value} {us : List PuD} (h : PutsV w v us) (hb : Below w.heap.size w w') : PutsV w' v us := ⟨h.1.below hb, fun d hd => ⟨(h.2 d hd).1.below hb, (h.2 d hd).2.below hb⟩⟩
def refA (n l : Int) (v : Value) : Value := .agg #[.int .i64 n, .int .i64 l, v]
theorem okN_ofI {n l : Int} (h : okN n l = true) : 1 ≤ n ∧ n ≤ 4096 ∧ 1 ≤ l ∧ l ≤ 1099511627776 := by
  unfold okN at h
  simp only [Bool.and_eq_true, decide_eq_true_eq] at h
  omega
theorem okN_no {n l : Int} (h : okN n l = false) : n < 1 ∨ (1 ≤ n ∧ 4096 < n) ∨ (1 ≤ n ∧ n ≤ 4096 ∧ l < 1) ∨ (1 ≤ n ∧ n ≤ 4096 ∧ 1 ≤ l ∧ 1099511627776 < l) := by
  have h' : ¬ okN n l = true := by rw [h]; exact Bool.false_ne_true
  unfold okN at h'
  simp only [Bool.and_eq_true, decide_eq_true_eq] at h'
  omega
/-- New's end: its first result lies in a block -/
theorem rf_new_end {w : World} {n l : Int} {ev : Value} {a : Act} {Q : Ending → World → Prop} (hev : a.tmps.getD 5 undef = ev) (hp : a.tmps.getD 4 undef = .pointer (some ⟨w.heap.size, 0, none⟩)) (hd : a.defers = [])
    (hq : Q (.returned (.tuple #[.agg #[.int .i64 n, .int .i64 l, .slice none 0 0], ev])) (w.alloc (.cells #[.int .i64 n, .int .i64 l, .slice none 0 0] 82))) :
    bodyPost Tryd.prog Tryd.f60 Q Exit.ret a (w.alloc (.cells #[.int .i64 n, .int .i64 l, .slice none 0 0] 82)) :=
  bodyPost_ret (v := .tuple #[.agg #[.int .i64 n, .int .i64 l, .slice none 0 0], ev]) (results_cellT rfl _ _ w.heap.size [.int .i64 n, .int .i64 l, .slice none 0 0] _ ev hp hev (fun j u hj => by rw [Nat.zero_add, blk_cell (blk_new w _), ← hj, ← Array.getElem?_toList]) Tryd.underlying82 rfl (by kernel_rfl)) hd hq
set_option maxRecDepth 100000 in
set_option maxHeartbeats 4000000 in
theorem ar_rf_new (n l : Int) (w : World) (h : okN n l = true) : Calls Tryd.prog 60 #[.int .i64 n, .int .i64 l] w fun ev w' => ev = .returned (.tuple #[refA n l (.slice none 0 0), .bool true]) ∧ Below w.heap.size w w' := by
  obtain ⟨h1, h2, h3, h4⟩ := okN_ofI h
  unfold refA
  have BB := fun o => Lib.hid (alloc_below0 w o)
  clear h
  go_enter Tryd.func60, Tryd.ntmps60
  go_wp2
  exact rf_new_end rfl rfl rfl ⟨rfl, (BB _).out⟩
set_option maxRecDepth 100000 in
set_option maxHeartbeats 4000000 in
theorem rf_newNo (n l : Int) (w : World) (h : okN n l = false) : Calls Tryd.prog 60 #[.int .i64 n, .int .i64 l] w fun ev w' => ev = .returned (.tuple #[refA 0 0 (.slice none 0 0), .bool false]) ∧ Below w.heap.size w w' := by
  unfold refA
  rcases okN_no h with h1 | ⟨h1, h2⟩ | ⟨h1, h2, h3⟩ | ⟨h1, h2, h3, h4⟩
  all_goals
    clear h
    go_enter Tryd.func60, Tryd.ntmps60
    go_wp2
    exact rf_new_end rfl rfl rfl ⟨rfl, alloc_below0 w _⟩
/-- what a slot is behind the first k puts -/
def slotTo (us : List PuD) (k m : Nat) : Nat × Bool := slotOf ((us.take k).map PuD.pt) m
theorem slotTo_succ {us : List PuD} {k : Nat} {d : PuD} (h : us[k]? = some d) (m : Nat) : slotTo us (k + 1) m = if d.slot = m then (d.gen, d.live) else slotTo us k m := by
  have hk : k < us.length := (List.getElem?_eq_some_iff.1 h).1
  have e : us[k] = d := (List.getElem?_eq_some_iff.1 h).2
  unfold slotTo
  rw [List.take_succ_eq_append_getElem hk, List.map_append, e]
  unfold slotOf
  rw [List.foldl_append]
  rfl
set_option maxRecDepth 100000 in
set_option maxHeartbeats 4000000 in
theorem rf_slot (n l : Int) (v : Value) (us : List PuD) (m : Nat) (w : World) (hv : SV lPut w v us) :
    Calls Tryd.prog 64 #[refA n l v, .int .i64 m] w fun ev w' => ev = .returned (.tuple #[.int .i64 ((slotOf (us.map PuD.pt) m).1 : Int), .bool (slotOf (us.map PuD.pt) m).2]) ∧ Below w.heap.size w w' := by
  obtain ⟨va, vc, rfl, hlc, hcm⟩ := hv.lenform
  obtain ⟨N, hN⟩ : ∃ N, us.length = N := ⟨_, rfl⟩
  have LN := Lib.hid hN
  unfold maxLen at hcm
  obtain ⟨w2, hw2⟩ : ∃ w2, w2 = w.alloc (.cells #[.int .i64 n, .int .i64 l, .slice va us.length vc] 82) := ⟨_, rfl⟩
  have B2 : Below w.heap.size w w2 := by rw [hw2]; exact alloc_below0 _ _
  have V := Lib.hid (hv.below B2)
  have a2 : w2.cell? ⟨w.heap.size, 2, none⟩ = some (.slice va us.length vc) := by rw [hw2, World.cell?_alloc_at _ _ _ _ rfl]; rfl
  rw [hN] at hw2 a2 V hlc ⊢
  have S := Lib.hid hw2
  have T := Lib.hid (show slotOf (us.map PuD.pt) m = slotTo us N m by unfold slotTo; rw [List.take_of_length_le (by omega)])
  rw [T.out]
  clear hv hN hw2 B2
  unfold refA
  go_enter Tryd.func64, Tryd.ntmps64
  go_wp2
  rw [← S.out]
  go_loopg [6, 7, 8] N (fun r g u i wr => ∃ k : Nat, k + r = N ∧ i = .int .i64 k ∧ g = .int .i64 ((slotTo us k m).1 : Int) ∧ u = .bool (slotTo us k m).2 ∧ wr = w2)
  case atStart => exact ⟨0, by omega, rfl, rfl, rfl, rfl⟩
  case round =>
    obtain ⟨k, hk, rfl, rfl, rfl, rfl⟩ := hrel
    have HK := Lib.hid hk
    by_cases hlt : k < N
    · obtain ⟨d, hx⟩ : ∃ d, us[k]? = some d := ⟨_, List.getElem?_eq_getElem (by rw [LN.out]; exact hlt)⟩
      obtain ⟨b, off, ha⟩ := V.out.addr (by rw [LN.out]; omega)
      subst ha
      have x0 := V.out.cellAt (j := 0) hx rfl
      have x1 := V.out.cellAt (j := 1) hx rfl
      have x17 := V.out.cellAt (j := 17) hx rfl
      simp only [lPut, Nat.add_zero] at x0 x1 x17
      have E := Lib.hid (slotTo_succ hx m)
      have j3 : (0 : Int) ≤ (k : Int) := by omega
      have j4 : (k : Int) < (N : Int) := by omega
      clear hx hk
      by_cases hm : d.slot = m
      · have e1 : ((d.slot : Int) == (m : Int)) = true := by rw [hm]; exact beq_self_eq_true _
        have E2 := Lib.hid (show slotTo us (k + 1) m = (d.gen, d.live) by rw [E.out, if_pos hm])
        clear hm
        go_wp2
        go_roundg (N - (k + 1))
        case measure => have := HK.out; omega
        case rel => exact ⟨k + 1, by omega, by go_num, by rw [E2.out], by rw [E2.out], rfl⟩
      · have e1 : ((d.slot : Int) == (m : Int)) = false := by rw [beq_eq_false_iff_ne]; omega
        have E2 := Lib.hid (show slotTo us (k + 1) m = slotTo us k m by rw [E.out, if_neg hm])
        clear hm
        go_wp2
        go_roundg (N - (k + 1))
        case measure => have := HK.out; omega
        case rel => exact ⟨k + 1, by omega, by go_num, by rw [E2.out], by rw [E2.out], rfl⟩
    · obtain rfl : k = N := by omega
      go_wp2
      go_ret2
      exact ⟨rfl, by rw [S.out]; exact alloc_below0 _ _⟩
theorem take_snoc {us : List PuD} {k : Nat} {d : PuD} (h : us[k]? = some d) : (us.take (k + 1)).map PuD.pt = (us.take k).map PuD.pt ++ [d.pt] := by
  have hk : k < us.length := (List.getElem?_eq_some_iff.1 h).1
  have e : us[k] = d := (List.getElem?_eq_some_iff.1 h).2
  rw [List.take_succ_eq_append_getElem hk, List.map_append, e]; rfl
theorem find_past {us : List PuD} {k : Nat} {d : PuD} {x y : Int} (h : us[k]? = some d) (hd : isAt x y d.pt = false) (hn : ∀ p ∈ (us.take k).map PuD.pt, isAt x y p = false) : ∀ p ∈ (us.take (k + 1)).map PuD.pt, isAt x y p = false := by
  rw [take_snoc h]
  intro p hp
  rcases List.mem_append.1 hp with hp | hp
  · exact hn p hp
  · rw [List.mem_singleton.1 hp]; exact hd
theorem find_here {us : List PuD} {k : Nat} {d : PuD} {x y : Int} (h : us[k]? = some d) (hd : isAt x y d.pt = true) (hn : ∀ p ∈ (us.take k).map PuD.pt, isAt x y p = false) : findM (us.map PuD.pt) x y = some k := by
  have hk : k < us.length := (List.getElem?_eq_some_iff.1 h).1
  unfold findM
  rw [List.findIdx?_eq_some_iff_getElem]
  refine ⟨by simpa using hk, ?_, fun j hj => ?_⟩
  · have e : us[k] = d := (List.getElem?_eq_some_iff.1 h).2
    simpa [e] using hd
  · have := hn ((us.map PuD.pt)[j]'(by simp; omega)) (by
      rw [List.mem_map]
      exact ⟨us[j], by rw [List.mem_take_iff_getElem]; exact ⟨j, by omega, rfl⟩, by simp⟩)
    simpa using this
set_option maxRecDepth 100000 in
set_option maxHeartbeats 4000000 in
theorem ar_rf_find (n l : Int) (v : Value) (us : List PuD) (x y : Int) (w : World) (hv : SV lPut w v us) :
    Calls Tryd.prog 91 #[refA n l v, refV x y] w fun ev w' => ev = .returned (.int .i64 ((findM (us.map PuD.pt) x y).elim (-1) (fun i => (i : Int)))) ∧ Below w.heap.size w w' := by
  obtain ⟨va, vc, rfl, hlc, hcm⟩ := hv.lenform
  obtain ⟨N, hN⟩ : ∃ N, us.length = N := ⟨_, rfl⟩
  have LN := Lib.hid hN
  unfold maxLen at hcm
  obtain ⟨w2, hw2⟩ : ∃ w2, w2 = (w.alloc (.cells #[.int .i64 n, .int .i64 l, .slice va us.length vc] 82)).alloc (.cells #[.int .i64 x, .int .i64 y] 30) := ⟨_, rfl⟩
  have b1 := alloc_below0 w (.cells #[.int .i64 n, .int .i64 l, .slice va us.length vc] 82)
  have b2 := alloc_below0 (w.alloc (.cells #[.int .i64 n, .int .i64 l, .slice va us.length vc] 82)) (.cells #[.int .i64 x, .int .i64 y] 30)
  have B2 := Lib.hid (show Below w.heap.size w w2 by rw [hw2]; exact b1.trans (b2.mono b1.size))
  have V := Lib.hid (show SV lPut w2 (.slice va us.length vc) us by rw [hw2]; exact (hv.below b1).below b2)
  have a2 : w2.cell? ⟨w.heap.size, 2, none⟩ = some (.slice va us.length vc) := by rw [hw2]; exact cell_step (by rw [World.cell?_alloc_at _ _ _ _ rfl]; rfl) b2
  have r0 : w2.cell? ⟨w.heap.size + 1, 0, none⟩ = some (.int .i64 x) := by rw [hw2, World.cell?_alloc_at _ _ _ _ (by simp)]; rfl
  have r1 : w2.cell? ⟨w.heap.size + 1, 1, none⟩ = some (.int .i64 y) := by rw [hw2, World.cell?_alloc_at _ _ _ _ (by simp)]; rfl
  rw [hN] at hw2 a2 V hlc ⊢
  have S := Lib.hid hw2
  clear hv hN hw2 b1 b2
  unfold refA refV
  go_enter Tryd.func91, Tryd.ntmps91
  go_wp2
  rw [← S.out]
  go_loopg [5] N (fun r i wr => ∃ k : Nat, k + r = N ∧ i = .int .i64 k ∧ (∀ p ∈ (us.take k).map PuD.pt, isAt x y p = false) ∧ Below w2.heap.size w2 wr)
  case atStart => exact ⟨0, by omega, rfl, by simp, Below.refl _ _⟩
  case round =>
    obtain ⟨k, hk, rfl, hno, hb⟩ := hrel
    have HK := Lib.hid hk
    have NO := Lib.hid hno
    have B3 := Lib.hid (B2.out.trans (hb.mono B2.out.size))
    have B4 := Lib.hid hb
    have V := Lib.hid (V.out.below hb)
    have a2 := cell_step a2 hb
    have r0 := cell_step r0 hb
    have r1 := cell_step r1 hb
    clear hno hb
    by_cases hlt : k < N
    · obtain ⟨d, hx⟩ : ∃ d, us[k]? = some d := ⟨_, List.getElem?_eq_getElem (by rw [LN.out]; exact hlt)⟩
      obtain ⟨b, off, ha⟩ := V.out.addr (by rw [LN.out]; omega)
      subst ha
      have x0 := V.out.cellAt (j := 0) hx rfl
      have x1 := V.out.cellAt (j := 1) hx rfl
      have x17 := V.out.cellAt (j := 17) hx rfl
      simp only [lPut, Nat.add_zero] at x0 x1 x17
      have j3 : (0 : Int) ≤ (k : Int) := by omega
      have j4 : (k : Int) < (N : Int) := by omega
      by_cases hm : isAt x y d.pt = true
      · have F := Lib.hid (show findM (us.map PuD.pt) x y = some k from find_here hx hm NO.out)
        unfold isAt PuD.pt at hm
        simp only [Bool.and_eq_true, beq_iff_eq] at hm
        obtain ⟨⟨rfl, rfl⟩, h3⟩ := hm
        rw [h3] at x17
        have e1 : ((d.slot : Int) == (d.slot : Int)) = true := by simp
        have e2 : ((d.gen : Int) == (d.gen : Int)) = true := by simp
        clear hx hk h3
        go_wp2
        go_quiet (fail)
        go_wp2
        go_ret
        exact ⟨by rw [F.out]; rfl, below_drewN B3.out _⟩
      · have N2 := Lib.hid (show ∀ p ∈ (us.take (k + 1)).map PuD.pt, isAt x y p = false from find_past hx (by simpa using hm) NO.out)
        by_cases h1 : (d.slot : Int) = x
        · by_cases h2 : (d.gen : Int) = y
          · have h3 : d.live = false := by
              unfold isAt PuD.pt at hm
              simpa [h1, h2] using hm
            subst h1 h2
            rw [h3] at x17
            have e1 : ((d.slot : Int) == (d.slot : Int)) = true := by simp
            have e2 : ((d.gen : Int) == (d.gen : Int)) = true := by simp
            clear hx hk h3 hm
            go_wp2
            go_quiet (fail)
            go_wp2
            go_roundg (N - (k + 1))
            case measure => have := HK.out; omega
            case rel => exact ⟨k + 1, by omega, by go_num, N2.out, below_drewN B4.out _⟩
          · subst h1
            have e1 : ((d.slot : Int) == (d.slot : Int)) = true := by simp
            have e2 : ((d.gen : Int) == y) = false := by rw [beq_eq_false_iff_ne]; exact h2
            clear hx hk hm h2
            go_wp2
            go_quiet (fail)
            go_wp2
            go_roundg (N - (k + 1))
            case measure => have := HK.out; omega
            case rel => exact ⟨k + 1, by omega, by go_num, N2.out, below_drewN B4.out _⟩
        · have e1 : ((d.slot : Int) == x) = false := by rw [beq_eq_false_iff_ne]; exact h1
          clear hx hk hm h1
          go_wp2
          go_quiet (fail)
          go_wp2
          go_roundg (N - (k + 1))
          case measure => have := HK.out; omega
          case rel => exact ⟨k + 1, by omega, by go_num, N2.out, below_drewN B4.out _⟩
    · obtain rfl : k = N := by omega
      have F := Lib.hid (show findM (us.map PuD.pt) x y = none by
        unfold findM
        rw [List.findIdx?_eq_none_iff]
        have h := NO.out
        rw [List.take_of_length_le (by have := LN.out; omega)] at h
        exact h)
      go_wp2
      go_ret
      exact ⟨by rw [F.out]; rfl, B3.out⟩
end Go.Proofs.YtkkmfacngmginaaDoor
