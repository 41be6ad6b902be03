/- The document's own New (layer 9), by a contract. -/
import Derived.Test.YtejmdmaebkdjoaaGreatDoorMm
import Derived.Test.YtejmdmaebkdjoaaGreatDoorArAlloc
import Derived.Test.YtejmdmaebkdjoaaGreatDoorArFew
import Derived.Test.YtejmdmaebkdjoaaGreatDoorArLive
import Derived.Test.YtejmdmaebkdjoaaGreatDoorArLast
import Derived.Test.YtejmdmaebkdjoaaGreatDoorMmOpsB
import Derived.Test.YtejmdmaebkdjoaaGreatDoorMpRj
import Derived.Test.YtejmdmaebkdjoaaGreatDoorEpRf
namespace Go.Proofs.YtejmdmaebkdjoaaGreatDoor
set_option linter.unusedVariables false
set_option linter.unusedSimpArgs false
set_option maxRecDepth 100000
set_option maxHeartbeats 8000000
open Go.RowKit
structure PuD where
 slot : Nat
 gen : Nat
 sc : Sc
 ra : Option Addr
 rc : Nat
 ea : Option Addr
 ec : Nat
 rows : List Rw
 ents : List En
 live : Bool
def PuD.rv (d : PuD) : Value := .slice d.ra d.rows.length d.rc
def PuD.en (d : PuD) : Value := .slice d.ea d.ents.length d.ec
def PuD.pt (d : PuD) : Pt := ⟨d.slot, d.gen, ⟨d.sc, d.rows, d.ents⟩, d.live⟩
def PuD.cells (d : PuD) : List Value := [.int .i64 d.slot, .int .i64 d.gen, .int .i64 d.sc.kind, .string d.sc.low, .string d.sc.high, .bool d.sc.unb, .int .i64 d.sc.right, .slice d.ra d.rows.length d.rc, .slice d.ea d.ents.length d.ec, .string d.sc.key, .string d.sc.value, .int .i64 d.sc.page, .int .i64 d.sc.hp, .int .i64 d.sc.hl, .string d.sc.hk, .int .i64 d.sc.ns, .int .i64 d.sc.ng, .bool d.live]
theorem PuD.cells_one (d : PuD) : ∀ u ∈ d.cells, u.oneCell' = true := fun u h => by
 simp only [PuD.cells, List.mem_cons, List.not_mem_nil, or_false] at h
 rcases h with h | h | h | h | h | h | h | h | h | h | h | h | h | h | h | h | h | h <;> subst h <;> rfl
def lPut : Lay PuD := ⟨158, 18, PuD.cells, fun _ => rfl, PuD.cells_one⟩
def PutsV (w : World) (v : Value) (us : List PuD) : Prop := SV lPut w v us ∧ ∀ d ∈ us, SV lRow w d.rv d.rows ∧ SV lEnt w d.en d.ents
theorem PutsV.below {w w' : World} {v : Value} {us : List PuD} (h : PutsV w v us) (hb : Below w.heap.size w w') : PutsV w' v us := ⟨h.1.below hb, fun d hd => ⟨(h.2 d hd).1.below hb, (h.2 d hd).2.below hb⟩⟩
def refA (n l : Int) (v : Value) : Value := .agg #[.int .i64 n, .int .i64 l, v]
theorem okN_ofI {n l : Int} (h : okN n l = true) : 1 ≤ n ∧ n ≤ 4096 ∧ 1 ≤ l ∧ l ≤ 1099511627776 := by
 unfold okN at h
 simp only [Bool.and_eq_true, decide_eq_true_eq] at h
 omega
theorem rf_new_end {w : World} {n l : Int} {ev : Value} {a : Act} {Q : Ending → World → Prop} (hev : a.tmps.getD 5 undef = ev) (hp : a.tmps.getD 4 undef = .pointer (some ⟨w.heap.size, 0, none⟩)) (hd : a.defers = [])
  (hq : Q (.returned (.tuple #[.agg #[.int .i64 n, .int .i64 l, .slice none 0 0], ev])) (w.alloc (.cells #[.int .i64 n, .int .i64 l, .slice none 0 0] 35))) :
  bodyPost Tryz.prog Tryz.f29 Q Exit.ret a (w.alloc (.cells #[.int .i64 n, .int .i64 l, .slice none 0 0] 35)) :=
 bodyPost_ret (v := .tuple #[.agg #[.int .i64 n, .int .i64 l, .slice none 0 0], ev]) (results_cellT rfl _ _ w.heap.size [.int .i64 n, .int .i64 l, .slice none 0 0] _ ev hp hev (fun j u hj => by rw [Nat.zero_add, blk_cell (blk_new w _), ← hj, ← Array.getElem?_toList]) Tryz.underlying35 rfl (by kernel_rfl)) hd hq
theorem ar_rf_new (n l : Int) (w : World) (h : okN n l = true) : Calls Tryz.prog 29 #[.int .i64 n, .int .i64 l] w fun ev w' => ev = .returned (.tuple #[refA n l (.slice none 0 0), .bool true]) ∧ Below w.heap.size w w' := by
 obtain ⟨h1, h2, h3, h4⟩ := okN_ofI h
 unfold refA
 have BB := fun o => Lib.hid (alloc_below0 w o)
 clear h
 go_enter Tryz.func29, Tryz.ntmps29
 go_wp2
 exact rf_new_end rfl rfl rfl ⟨rfl, (BB _).out⟩
def slotTo (us : List PuD) (k m : Nat) : Nat × Bool := slotOf ((us.take k).map PuD.pt) m
theorem slotTo_succ {us : List PuD} {k : Nat} {d : PuD} (h : us[k]? = some d) (m : Nat) : slotTo us (k + 1) m = if d.slot = m then (d.gen, d.live) else slotTo us k m := by
 have hk : k < us.length := (List.getElem?_eq_some_iff.1 h).1
 have e : us[k] = d := (List.getElem?_eq_some_iff.1 h).2
 unfold slotTo
 rw [List.take_succ_eq_append_getElem hk, List.map_append, e]
 unfold slotOf
 rw [List.foldl_append]
 rfl
theorem rf_slot (n l : Int) (v : Value) (us : List PuD) (m : Nat) (w : World) (hv : SV lPut w v us) :
  Calls Tryz.prog 72 #[refA n l v, .int .i64 m] w fun ev w' => ev = .returned (.tuple #[.int .i64 ((slotOf (us.map PuD.pt) m).1 : Int), .bool (slotOf (us.map PuD.pt) m).2]) ∧ Below w.heap.size w w' := by
 obtain ⟨va, vc, rfl, hlc, hcm⟩ := hv.lenform
 obtain ⟨N, hN⟩ : ∃ N, us.length = N := ⟨_, rfl⟩
 have LN := Lib.hid hN
 unfold maxLen at hcm
 obtain ⟨w2, hw2⟩ : ∃ w2, w2 = w.alloc (.cells #[.int .i64 n, .int .i64 l, .slice va us.length vc] 35) := ⟨_, rfl⟩
 have B2 : Below w.heap.size w w2 := by rw [hw2]; exact alloc_below0 _ _
 have V := Lib.hid (hv.below B2)
 have a2 : w2.cell? ⟨w.heap.size, 2, none⟩ = some (.slice va us.length vc) := by rw [hw2, World.cell?_alloc_at _ _ _ _ rfl]; rfl
 rw [hN] at hw2 a2 V hlc ⊢
 have S := Lib.hid hw2
 have T := Lib.hid (show slotOf (us.map PuD.pt) m = slotTo us N m by unfold slotTo; rw [List.take_of_length_le (by omega)])
 rw [T.out]
 clear hv hN hw2 B2
 unfold refA
 go_enter Tryz.func72, Tryz.ntmps72
 go_wp2
 rw [← S.out]
 go_loopg [6, 7, 8] N (fun r g u i wr => ∃ k : Nat, k + r = N ∧ i = .int .i64 k ∧ g = .int .i64 ((slotTo us k m).1 : Int) ∧ u = .bool (slotTo us k m).2 ∧ wr = w2)
 case atStart => exact ⟨0, by omega, rfl, rfl, rfl, rfl⟩
 case round =>
  obtain ⟨k, hk, rfl, rfl, rfl, rfl⟩ := hrel
  have HK := Lib.hid hk
  by_cases hlt : k < N
  ·obtain ⟨d, hx⟩ : ∃ d, us[k]? = some d := ⟨_, List.getElem?_eq_getElem (by rw [LN.out]; exact hlt)⟩
   obtain ⟨b, off, ha⟩ := V.out.addr (by rw [LN.out]; omega)
   subst ha
   have x0 := V.out.cellAt (j := 0) hx rfl
   have x1 := V.out.cellAt (j := 1) hx rfl
   have x17 := V.out.cellAt (j := 17) hx rfl
   simp only [lPut, Nat.add_zero] at x0 x1 x17
   have E := Lib.hid (slotTo_succ hx m)
   have j3 : (0 : Int) ≤ (k : Int) := by omega
   have j4 : (k : Int) < (N : Int) := by omega
   clear hx hk
   by_cases hm : d.slot = m
   ·have e1 : ((d.slot : Int) == (m : Int)) = true := by rw [hm]; exact beq_self_eq_true _
    have E2 := Lib.hid (show slotTo us (k + 1) m = (d.gen, d.live) by rw [E.out, if_pos hm])
    clear hm
    go_wp2
    go_roundg (N - (k + 1))
    case measure => have := HK.out; omega
    case rel => exact ⟨k + 1, by omega, by go_num, by rw [E2.out], by rw [E2.out], rfl⟩
   ·have e1 : ((d.slot : Int) == (m : Int)) = false := by rw [beq_eq_false_iff_ne]; omega
    have E2 := Lib.hid (show slotTo us (k + 1) m = slotTo us k m by rw [E.out, if_neg hm])
    clear hm
    go_wp2
    go_roundg (N - (k + 1))
    case measure => have := HK.out; omega
    case rel => exact ⟨k + 1, by omega, by go_num, by rw [E2.out], by rw [E2.out], rfl⟩
  ·obtain rfl : k = N := by omega
   go_wp2
   go_ret2
   exact ⟨rfl, by rw [S.out]; exact alloc_below0 _ _⟩
theorem take_snoc {us : List PuD} {k : Nat} {d : PuD} (h : us[k]? = some d) : (us.take (k + 1)).map PuD.pt = (us.take k).map PuD.pt ++ [d.pt] := by
 have hk : k < us.length := (List.getElem?_eq_some_iff.1 h).1
 have e : us[k] = d := (List.getElem?_eq_some_iff.1 h).2
 rw [List.take_succ_eq_append_getElem hk, List.map_append, e]; rfl
theorem find_past {us : List PuD} {k : Nat} {d : PuD} {x y : Int} (h : us[k]? = some d) (hd : isAt x y d.pt = false) (hn : ∀ p ∈ (us.take k).map PuD.pt, isAt x y p = false) : ∀ p ∈ (us.take (k + 1)).map PuD.pt, isAt x y p = false := by
 rw [take_snoc h]
 intro p hp
 rcases List.mem_append.1 hp with hp | hp
 ·exact hn p hp
 ·rw [List.mem_singleton.1 hp]; exact hd
theorem find_here {us : List PuD} {k : Nat} {d : PuD} {x y : Int} (h : us[k]? = some d) (hd : isAt x y d.pt = true) (hn : ∀ p ∈ (us.take k).map PuD.pt, isAt x y p = false) : findM (us.map PuD.pt) x y = some k := by
 have hk : k < us.length := (List.getElem?_eq_some_iff.1 h).1
 unfold findM
 rw [List.findIdx?_eq_some_iff_getElem]
 refine ⟨by simpa using hk, ?_, fun j hj => ?_⟩
 ·have e : us[k] = d := (List.getElem?_eq_some_iff.1 h).2
  simpa [e] using hd
 ·have := hn ((us.map PuD.pt)[j]'(by simp; omega)) (by
   rw [List.mem_map]
   exact ⟨us[j], by rw [List.mem_take_iff_getElem]; exact ⟨j, by omega, rfl⟩, by simp⟩)
  simpa using this
theorem ar_rf_find (n l : Int) (v : Value) (us : List PuD) (x y : Int) (w : World) (hv : SV lPut w v us) :
  Calls Tryz.prog 86 #[refA n l v, refV x y] w fun ev w' => ev = .returned (.int .i64 ((findM (us.map PuD.pt) x y).elim (-1) (fun i => (i : Int)))) ∧ Below w.heap.size w w' := by
 obtain ⟨va, vc, rfl, hlc, hcm⟩ := hv.lenform
 obtain ⟨N, hN⟩ : ∃ N, us.length = N := ⟨_, rfl⟩
 have LN := Lib.hid hN
 unfold maxLen at hcm
 obtain ⟨w2, hw2⟩ : ∃ w2, w2 = (w.alloc (.cells #[.int .i64 n, .int .i64 l, .slice va us.length vc] 35)).alloc (.cells #[.int .i64 x, .int .i64 y] 48) := ⟨_, rfl⟩
 have b1 := alloc_below0 w (.cells #[.int .i64 n, .int .i64 l, .slice va us.length vc] 35)
 have b2 := alloc_below0 (w.alloc (.cells #[.int .i64 n, .int .i64 l, .slice va us.length vc] 35)) (.cells #[.int .i64 x, .int .i64 y] 48)
 have B2 := Lib.hid (show Below w.heap.size w w2 by rw [hw2]; exact b1.trans (b2.mono b1.size))
 have V := Lib.hid (show SV lPut w2 (.slice va us.length vc) us by rw [hw2]; exact (hv.below b1).below b2)
 have a2 : w2.cell? ⟨w.heap.size, 2, none⟩ = some (.slice va us.length vc) := by rw [hw2]; exact cell_step (by rw [World.cell?_alloc_at _ _ _ _ rfl]; rfl) b2
 have r0 : w2.cell? ⟨w.heap.size + 1, 0, none⟩ = some (.int .i64 x) := by rw [hw2, World.cell?_alloc_at _ _ _ _ (by simp)]; rfl
 have r1 : w2.cell? ⟨w.heap.size + 1, 1, none⟩ = some (.int .i64 y) := by rw [hw2, World.cell?_alloc_at _ _ _ _ (by simp)]; rfl
 rw [hN] at hw2 a2 V hlc ⊢
 have S := Lib.hid hw2
 clear hv hN hw2 b1 b2
 unfold refA refV
 go_enter Tryz.func86, Tryz.ntmps86
 go_wp2
 rw [← S.out]
 go_loopg [5] N (fun r i wr => ∃ k : Nat, k + r = N ∧ i = .int .i64 k ∧ (∀ p ∈ (us.take k).map PuD.pt, isAt x y p = false) ∧ Below w2.heap.size w2 wr)
 case atStart => exact ⟨0, by omega, rfl, by simp, Below.refl _ _⟩
 case round =>
  obtain ⟨k, hk, rfl, hno, hb⟩ := hrel
  have HK := Lib.hid hk
  have NO := Lib.hid hno
  have B3 := Lib.hid (B2.out.trans (hb.mono B2.out.size))
  have B4 := Lib.hid hb
  have V := Lib.hid (V.out.below hb)
  have a2 := cell_step a2 hb
  have r0 := cell_step r0 hb
  have r1 := cell_step r1 hb
  clear hno hb
  by_cases hlt : k < N
  ·obtain ⟨d, hx⟩ : ∃ d, us[k]? = some d := ⟨_, List.getElem?_eq_getElem (by rw [LN.out]; exact hlt)⟩
   obtain ⟨b, off, ha⟩ := V.out.addr (by rw [LN.out]; omega)
   subst ha
   have x0 := V.out.cellAt (j := 0) hx rfl
   have x1 := V.out.cellAt (j := 1) hx rfl
   have x17 := V.out.cellAt (j := 17) hx rfl
   simp only [lPut, Nat.add_zero] at x0 x1 x17
   have j3 : (0 : Int) ≤ (k : Int) := by omega
   have j4 : (k : Int) < (N : Int) := by omega
   by_cases hm : isAt x y d.pt = true
   ·have F := Lib.hid (show findM (us.map PuD.pt) x y = some k from find_here hx hm NO.out)
    unfold isAt PuD.pt at hm
    simp only [Bool.and_eq_true, beq_iff_eq] at hm
    obtain ⟨⟨rfl, rfl⟩, h3⟩ := hm
    rw [h3] at x17
    have e1 : ((d.slot : Int) == (d.slot : Int)) = true := by simp
    have e2 : ((d.gen : Int) == (d.gen : Int)) = true := by simp
    clear hx hk h3
    go_wp2
    go_quiet (fail)
    go_wp2
    go_ret
    exact ⟨by rw [F.out]; rfl, below_drewN B3.out _⟩
   ·have N2 := Lib.hid (show ∀ p ∈ (us.take (k + 1)).map PuD.pt, isAt x y p = false from find_past hx (by simpa using hm) NO.out)
    by_cases h1 : (d.slot : Int) = x
    ·by_cases h2 : (d.gen : Int) = y
     ·have h3 : d.live = false := by
       unfold isAt PuD.pt at hm
       simpa [h1, h2] using hm
      subst h1 h2
      rw [h3] at x17
      have e1 : ((d.slot : Int) == (d.slot : Int)) = true := by simp
      have e2 : ((d.gen : Int) == (d.gen : Int)) = true := by simp
      clear hx hk h3 hm
      go_wp2
      go_quiet (fail)
      go_wp2
      go_roundg (N - (k + 1))
      case measure => have := HK.out; omega
      case rel => exact ⟨k + 1, by omega, by go_num, N2.out, below_drewN B4.out _⟩
     ·subst h1
      have e1 : ((d.slot : Int) == (d.slot : Int)) = true := by simp
      have e2 : ((d.gen : Int) == y) = false := by rw [beq_eq_false_iff_ne]; exact h2
      clear hx hk hm h2
      go_wp2
      go_quiet (fail)
      go_wp2
      go_roundg (N - (k + 1))
      case measure => have := HK.out; omega
      case rel => exact ⟨k + 1, by omega, by go_num, N2.out, below_drewN B4.out _⟩
    ·have e1 : ((d.slot : Int) == x) = false := by rw [beq_eq_false_iff_ne]; exact h1
     clear hx hk hm h1
     go_wp2
     go_quiet (fail)
     go_wp2
     go_roundg (N - (k + 1))
     case measure => have := HK.out; omega
     case rel => exact ⟨k + 1, by omega, by go_num, N2.out, below_drewN B4.out _⟩
  ·obtain rfl : k = N := by omega
   have F := Lib.hid (show findM (us.map PuD.pt) x y = none by
    unfold findM
    rw [List.findIdx?_eq_none_iff]
    have h := NO.out
    rw [List.take_of_length_le (by have := LN.out; omega)] at h
    exact h)
   go_wp2
   go_ret
   exact ⟨by rw [F.out]; rfl, B3.out⟩
open Go.RowKit
structure RfBa (b : Nat) (n l : Nat) (va : Option Addr) (vc : Nat) (us : List PuD) (w : World) : Prop where
 a0 : w.cell? ⟨b, 0, none⟩ = some (.int .i64 n)
 a1 : w.cell? ⟨b, 1, none⟩ = some (.int .i64 l)
 a2 : w.cell? ⟨b, 2, none⟩ = some (.slice va us.length vc)
 sv : SV lPut w (.slice va us.length vc) us
theorem RfBa.step {b n l : Nat} {va : Option Addr} {vc : Nat} {us : List PuD} {w w' : World} (h : RfBa b n l va vc us w) (hs : Below w.heap.size w w') : RfBa b n l va vc us w' :=
 ⟨cell_step h.a0 hs, cell_step h.a1 hs, cell_step h.a2 hs, h.sv.below hs⟩
theorem RfBa.new (n l : Nat) {va : Option Addr} {vc : Nat} {us : List PuD} {w : World} (h : SV lPut w (.slice va us.length vc) us) : RfBa w.heap.size n l va vc us (w.alloc (.cells #[.int .i64 n, .int .i64 l, .slice va us.length vc] 35)) :=
 ⟨by rw [World.cell?_alloc_at _ _ _ _ rfl]; rfl, by rw [World.cell?_alloc_at _ _ _ _ rfl]; rfl, by rw [World.cell?_alloc_at _ _ _ _ rfl]; rfl, h.below (alloc_below0 _ _)⟩
theorem rf_live (n l : Nat) (v : Value) (us : List PuD) (w : World) (hv : SV lPut w v us) (hn : n ≤ 4096) :
  Calls Tryz.prog 55 #[refA n l v] w fun ev w' => ∃ v', ev = .returned v' ∧ OwnS lRef w.heap.size w' v' (liveM n (us.map PuD.pt)) ∧ Below w.heap.size w w' := by
 obtain ⟨va, vc, rfl, hlc, hcm⟩ := hv.lenform
 have K := Lib.hid (RfBa.new n l hv)
 have B := Lib.hid (alloc_below0 w (.cells #[.int .i64 n, .int .i64 l, .slice va us.length vc] 35))
 obtain ⟨w2, hw2⟩ : ∃ w2, w2 = w.alloc (.cells #[.int .i64 n, .int .i64 l, .slice va us.length vc] 35) := ⟨_, rfl⟩
 have Z := Lib.hid (show w.heap.size < w2.heap.size by rw [hw2]; simp)
 rw [← hw2] at K B
 have S := Lib.hid hw2
 obtain ⟨ps, hps⟩ : ∃ ps, us.map PuD.pt = ps := ⟨_, rfl⟩
 have P := Lib.hid hps
 rw [hps]
 clear hv hw2 hps hcm hlc
 unfold refA
 go_enter Tryz.func55, Tryz.ntmps55
 go_wp2
 rw [← S.out]
 go_loopg [3, 4] n (fun r y i wr => ∃ k : Nat, k + r = n ∧ i = .int .i64 ((k + 1 : Nat) : Int) ∧ OwnS lRef w2.heap.size wr y (liveTo ps k) ∧ Below w2.heap.size w2 wr)
 case atStart => exact ⟨0, by omega, rfl, OwnS.nil _ _ _, Below.refl _ _⟩
 case round =>
  obtain ⟨k, hk, rfl, hO, hB⟩ := hrel
  have A := Lib.hid (show Below w2.heap.size w2 wr ∧ k + gk = n from ⟨hB, hk⟩)
  have O := Lib.hid hO
  have hK := K.out.step hB
  have K := Lib.hid hK
  have a0 := hK.a0
  have a1 := hK.a1
  have a2 := hK.a2
  clear hB hK hk hO
  by_cases hlt : k < n
  ·have j1 : ((k + 1 : Nat) : Int) ≤ (n : Int) := by omega
   go_wp2_with fail
   refine (rf_slot n l _ us (k + 1) _ K.out.sv).mono ?_
   rintro ev w3 ⟨rfl, hs⟩
   have B3 := Lib.hid (A.out.1.trans (hs.mono A.out.1.size))
   have O3 := Lib.hid (O.out.below hs)
   rw [P.out]
   clear hs a2 a0 a1
   cases hst : (slotOf ps (k + 1)).2 with
   | true =>
    have T := Lib.hid (show liveTo ps (k + 1) = liveTo ps k ++ [(((k + 1 : Nat) : Int), ((slotOf ps (k + 1)).1 : Int))] by rw [liveTo_succ, hst]; rfl)
    obtain ⟨g, hgg⟩ : ∃ g, (slotOf ps (k + 1)).1 = g := ⟨_, rfl⟩
    rw [hgg] at T ⊢
    have bb := alloc_below0 w3 (.cells #[.int .i64 ((k + 1 : Nat) : Int), .int .i64 (g : Int)] 48)
    have BA := Lib.hid (B3.out.trans (bb.mono B3.out.size))
    have O2 := Lib.hid (O3.out.below bb)
    have SR := Lib.hid (OwnS.lit lRef w2.heap.size w3 w3.heap.size rfl [(((k + 1 : Nat) : Int), (g : Int))] B3.out.size (by simp [maxLen])).sv
    have LN := Lib.hid (liveTo_len ps k)
    clear hst hgg bb
    go_wp2_with (refine wpList_appS lRef 66 Tryz.underlying66 lRef_known (by decide) (by decide) rfl (.tmp 20) (.tmp 24) rfl w2.heap.size rfl rfl O2.out SR (by have := LN.out; simp; omega) (by have := BA.out.size; exact this) ?_; intro v2 w4 ho2 hg2)
    go_roundg (n - (k + 1))
    case measure => have := A.out.2; omega
    case rel => exact ⟨k + 1, by omega, by go_num, by rw [T.out]; exact ho2, BA.out.trans ((Kept.of_grown hg2).below (fun j hj => (O2.out.bounds j hj.symm).1) BA.out.size)⟩
   | false =>
    have T := Lib.hid (show liveTo ps (k + 1) = liveTo ps k by rw [liveTo_succ, hst]; simp)
    obtain ⟨g, hgg⟩ : ∃ g, (slotOf ps (k + 1)).1 = g := ⟨_, rfl⟩
    rw [hgg]
    clear hst hgg
    go_wp2
    go_roundg (n - (k + 1))
    case measure => have := A.out.2; omega
    case rel => exact ⟨k + 1, by omega, by go_num, by rw [T.out]; exact O3.out, B3.out⟩
  ·obtain rfl : k = n := by have := A.out.2; omega
   have j1 : ¬ ((k + 1 : Nat) : Int) ≤ (k : Int) := by omega
   go_wp2
   go_ret
   exact ⟨_, rfl, O.out.mono (Nat.le_of_lt Z.out), B.out.trans (A.out.1.mono (Nat.le_of_lt Z.out))⟩
theorem rf_same (v u : Value) (xs : List Rf) (w : World) (hv : SV lRef w v xs) (hu : SV lRef w u xs) :
  Calls Tryz.prog 53 #[v, u] w fun ev w' => ev = .returned (.bool true) ∧ Below w.heap.size w w' := by
 obtain ⟨va, vc, rfl, hlc, hcm⟩ := hv.lenform
 obtain ⟨ua, uc, rfl, hlc2, hcm2⟩ := hu.lenform
 obtain ⟨N, hN⟩ : ∃ N, xs.length = N := ⟨_, rfl⟩
 have LN := Lib.hid hN
 have V := Lib.hid hv
 have U := Lib.hid hu
 unfold maxLen at hcm
 rw [hN] at V U hlc ⊢
 clear hv hu hN hlc2 hcm2
 go_enter Tryz.func53, Tryz.ntmps53
 go_wp2
 go_loopg [5] N (fun r i wr => ∃ k : Nat, k + r = N ∧ i = .int .i64 k ∧ Below w.heap.size w wr)
 case atStart => exact ⟨0, by omega, rfl, Below.refl _ _⟩
 case round =>
  obtain ⟨k, hk, rfl, hB⟩ := hrel
  have A := Lib.hid (show Below w.heap.size w wr ∧ k + gk = N from ⟨hB, hk⟩)
  have V := Lib.hid (V.out.below hB)
  have U := Lib.hid (U.out.below hB)
  clear hB hk
  by_cases hlt : k < N
  ·obtain ⟨⟨p, q⟩, hx⟩ : ∃ d, xs[k]? = some d := ⟨_, List.getElem?_eq_getElem (by rw [LN.out]; exact hlt)⟩
   obtain ⟨b, off, ha⟩ := V.out.addr (by rw [LN.out]; omega)
   subst ha
   obtain ⟨b2, off2, ha⟩ := U.out.addr (by rw [LN.out]; omega)
   subst ha
   have x0 := V.out.cellAt (j := 0) hx rfl
   have x1 := V.out.cellAt (j := 1) hx rfl
   have y0 := U.out.cellAt (j := 0) hx rfl
   have y1 := U.out.cellAt (j := 1) hx rfl
   simp only [lRef, Nat.add_zero] at x0 x1 y0 y1
   have j3 : (0 : Int) ≤ (k : Int) := by omega
   have j4 : (k : Int) < (N : Int) := by omega
   have e1 : (p == p) = true := by simp
   have e2 : (q == q) = true := by simp
   clear hx
   go_wp2
   go_quiet (fail)
   go_wp2
   go_roundg (N - (k + 1))
   case measure => have := A.out.2; omega
   case rel => exact ⟨k + 1, by omega, by go_num, below_drewN A.out.1 _⟩
  ·obtain rfl : k = N := by have := A.out.2; omega
   go_wp2
   go_ret
   exact ⟨rfl, A.out.1⟩
open Go.RowKit
theorem SV.there {α : Type} {E : Lay α} {w : World} {b off n c : Nat} {xs : List α} (h : SV E w (.slice (some ⟨b, off, none⟩) n c) xs) {i j : Nat} {x : α} {cs : List Value} (hi : xs[i]? = some x) (hc : ∀ k u, cs[k]? = some u → (E.enc x)[j + k]? = some u) : w.rangeAt b (off + i * E.sz + j) cs := fun k u hk => by
 have := h.cellAt hi (hc k u hk)
 rw [Nat.add_assoc (off + i * E.sz) j k]
 exact this
theorem PuD.rec_cells (d : PuD) (k : Nat) (u : Value) (h : (recCells d.sc d.rv d.en)[k]? = some u) : d.cells[2 + k]? = some u := by
 have e : d.cells = [.int .i64 (d.slot : Int), .int .i64 (d.gen : Int)] ++ (recCells d.sc d.rv d.en ++ [.bool d.live]) := rfl
 rw [e, List.getElem?_append_right (by simp), show 2 + k - List.length [Value.int .i64 (d.slot : Int), .int .i64 (d.gen : Int)] = k by simp, List.getElem?_append_left (List.getElem?_eq_some_iff.1 h).1]
 exact h
theorem codeM_arg {n : Nat} {ps : List Pt} {x y : Int} (h : x < 1 ∨ (n : Int) < x) : codeM n ps x y = 1 := by unfold codeM; rw [if_pos h]
theorem codeM_stale {n : Nat} {ps : List Pt} {x y : Int} (h : ¬ (x < 1 ∨ (n : Int) < x)) (hf : findM ps x y = none) : codeM n ps x y = 4 := by unfold codeM; rw [if_neg h, hf]; rfl
theorem codeM_here {n : Nat} {ps : List Pt} {x y : Int} {i : Nat} (h : ¬ (x < 1 ∨ (n : Int) < x)) (hf : findM ps x y = some i) : codeM n ps x y = 0 := by unfold codeM; rw [if_neg h, hf]; rfl
theorem loadM_no {n : Nat} {ps : List Pt} {x y : Int} (h : codeM n ps x y ≠ 0) : loadM n ps x y = RecD.zero := by unfold loadM; rw [if_neg h]
theorem findM_at {us : List PuD} {x y : Int} {i : Nat} (hf : findM (us.map PuD.pt) x y = some i) : ∃ d, us[i]? = some d := by
 unfold findM at hf
 rw [List.findIdx?_eq_some_iff_getElem] at hf
 obtain ⟨h, -⟩ := hf
 exact ⟨us[i]'(by simpa using h), List.getElem?_eq_getElem (by simpa using h)⟩
theorem rf_load_end {w1 : World} {b : Nat} {cs : List Value} {ev : Value} {a : Act} {Q : Ending → World → Prop} (h : w1.rangeAt b 0 cs) (hev : a.tmps.getD 5 undef = ev) (hp : a.tmps.getD 4 undef = .pointer (some ⟨b, 0, none⟩)) (hd : a.defers = [])
  (hi : (Tryz.prog.info? 55).map (·.size) = some cs.length) (hq : Q (.returned (.tuple #[.agg cs.toArray, ev])) w1) : bodyPost Tryz.prog Tryz.f90 Q Exit.ret a w1 :=
 bodyPost_ret (v := .tuple #[.agg cs.toArray, ev]) (results_cellT rfl _ _ b cs _ ev hp hev h Tryz.underlying55 rfl hi) hd hq
def OldR (us : List PuD) (rv en : Value) (rows : List Rw) (ents : List En) : Prop := (rv = .slice none 0 0 ∧ en = .slice none 0 0 ∧ rows = [] ∧ ents = []) ∨ ∃ e ∈ us, rv = e.rv ∧ en = e.en ∧ rows = e.rows ∧ ents = e.ents
theorem rf_loadN (n l : Nat) (v : Value) (us : List PuD) (x y : Int) (w : World) (hv : PutsV w v us) :
  Calls Tryz.prog 90 #[refA n l v, refV x y] w fun ev w' => ∃ rv en, ev = .returned (.tuple #[recVal (loadM n (us.map PuD.pt) x y).sc rv en, .int .i64 (codeM n (us.map PuD.pt) x y)]) ∧ SV lRow w' rv (loadM n (us.map PuD.pt) x y).rows ∧ SV lEnt w' en (loadM n (us.map PuD.pt) x y).ents ∧ OldR us rv en (loadM n (us.map PuD.pt) x y).rows (loadM n (us.map PuD.pt) x y).ents ∧ Below w.heap.size w w' := by
 obtain ⟨va, vc, rfl, hlc, hcm⟩ := hv.1.lenform
 have V0 := Lib.hid hv
 obtain ⟨w1, hw1⟩ : ∃ w1, w1 = w.alloc (.cells #[.int .i64 n, .int .i64 l, .slice va us.length vc] 35) := ⟨_, rfl⟩
 obtain ⟨w2, hw2⟩ : ∃ w2, w2 = w1.alloc (.cells #[.int .i64 x, .int .i64 y] 48) := ⟨_, rfl⟩
 obtain ⟨W, hW⟩ : ∃ W, W = w2.alloc (recObj Sc.zero (.slice none 0 0) (.slice none 0 0)) := ⟨_, rfl⟩
 have K1 := RfBa.new n l hv.1
 have b1 := alloc_below0 w (.cells #[.int .i64 n, .int .i64 l, .slice va us.length vc] 35)
 rw [← hw1] at K1 b1
 have b2 := alloc_below0 w1 (.cells #[.int .i64 x, .int .i64 y] 48)
 rw [← hw2] at b2
 have b3 := alloc_below0 w2 (recObj Sc.zero (.slice none 0 0) (.slice none 0 0))
 rw [← hW] at b3
 have X0 := XB.new x y w1 48
 rw [← hw2] at X0
 have X := Lib.hid (X0.step b3)
 have K := Lib.hid ((K1.step b2).step b3)
 have B0 := Lib.hid (show Below w.heap.size w W from (b1.trans (b2.mono b1.size)).trans (b3.mono (Nat.le_trans b1.size b2.size)))
 have V := Lib.hid (show PutsV W (.slice va us.length vc) us from hv.below B0.out)
 have z1 : w1.heap.size = w.heap.size + 1 := by rw [hw1]; simp
 have z2 : w2.heap.size = w.heap.size + 1 + 1 := by rw [hw2]; simp [z1]
 have K2 := Lib.hid (show W.heap[w.heap.size + 1 + 1]? = some (recObj Sc.zero (.slice none 0 0) (.slice none 0 0)) by rw [hW, ← z2]; exact blk_new _ _)
 have Z := Lib.hid (show W.heap.size = w.heap.size + 3 by rw [hW]; simp [z2])
 rw [z1] at X
 rw [hw2, hw1] at hW
 simp only [recObj, Sc.zero] at hW
 obtain ⟨N, hN⟩ : ∃ N, us.length = N := ⟨_, rfl⟩
 have LN := Lib.hid hN
 unfold maxLen at hcm
 have a0 := K.out.a0
 have a1 := K.out.a1
 have a2 := K.out.a2
 have r0 := X.out.c0
 have r1 := X.out.c1
 have v1 := V.out
 have hc := ar_rf_find n l (.slice va us.length vc) us x y W v1.1
 rw [hN] at a2 hW V hlc hc ⊢
 clear hv b1 b2 b3 X0 K1 z1 z2 hw1 hw2 v1
 clear w1 w2
 by_cases hg : x < 1 ∨ (n : Int) < x
 ·have E := Lib.hid (codeM_arg (ps := us.map PuD.pt) (y := y) hg)
  have EL := Lib.hid (loadM_no (n := n) (ps := us.map PuD.pt) (x := x) (y := y) (by rw [E.out]; decide))
  rw [E.out, EL.out]
  clear hc
  unfold refA refV
  rcases hg with hg | hg
  all_goals
   go_enter Tryz.func90, Tryz.ntmps90
   go_wp2
   rw [← hW]
   first
    | exact rf_load_end (rec_range K2.out) rfl rfl rfl (by kernel_rfl) ⟨_, _, rfl, SV.nil _ _, SV.nil _ _, .inl ⟨rfl, rfl, rfl, rfl⟩, B0.out⟩
    | (go_wp2
       exact rf_load_end (rec_range K2.out) rfl rfl rfl (by kernel_rfl) ⟨_, _, rfl, SV.nil _ _, SV.nil _ _, .inl ⟨rfl, rfl, rfl, rfl⟩, B0.out⟩)
 ·have h1 : ¬ x < 1 := fun h => hg (.inl h)
  have h2 : ¬ (n : Int) < x := fun h => hg (.inr h)
  cases hf : findM (us.map PuD.pt) x y with
  | none =>
   have E := Lib.hid (codeM_stale hg hf)
   have EL := Lib.hid (loadM_no (n := n) (ps := us.map PuD.pt) (x := x) (y := y) (by rw [E.out]; decide))
   rw [E.out, EL.out]
   rw [hf] at hc
   simp only [Option.elim_none] at hc
   clear hf hg
   unfold refA refV at hc ⊢
   go_enter Tryz.func90, Tryz.ntmps90
   go_wp2_with fail
   rw [← hW]
   refine hc.mono ?_
   rintro ev w1 ⟨rfl, hs⟩
   have B := Lib.hid (B0.out.trans (hs.mono B0.out.size))
   have K3 := Lib.hid (blk_step K2.out hs)
   have j1 : (-1 : Int) < 0 := by decide
   clear hs hc hW a0 a1 a2 r0 r1
   go_wp2_with (refine wpList_store_mid rfl 55 (.tmp 4) (.tmp 23) rfl (w.heap.size + 1 + 1) 0 (recCells Sc.zero (.slice none 0 0) (.slice none 0 0)).toArray rfl rfl (blk_there K3.out 15 (Nat.le_refl _)) (by kernel_rfl) (rec_one ..) ?_)
   exact rf_load_end (World.rangeAt_setCells_same _ _ _ _ (blk_there K3.out 15 (Nat.le_refl _))) rfl rfl rfl (by kernel_rfl) ⟨_, _, rfl, SV.nil _ _, SV.nil _ _, .inl ⟨rfl, rfl, rfl, rfl⟩, B.out.trans ((Kept.setCells (b := w.heap.size + 1 + 1) (recCells Sc.zero (.slice none 0 0) (.slice none 0 0)) 0 _ (Kept.refl _ w1)).below (n := w.heap.size) (fun k h => by omega) B.out.size)⟩
  | some i =>
   have E := Lib.hid (codeM_here hg hf)
   obtain ⟨d, hx⟩ := findM_at hf
   have EL := Lib.hid (show loadM n (us.map PuD.pt) x y = ⟨d.sc, d.rows, d.ents⟩ by
    unfold loadM; rw [if_pos E.out, hf]; simp only [Option.bind_some, List.getElem?_map, hx, Option.map_some]; rfl)
   rw [E.out, EL.out]
   rw [hf] at hc
   simp only [Option.elim_some] at hc
   have hlt : i < N := by rw [← LN.out]; exact (List.getElem?_eq_some_iff.1 hx).1
   have HX := Lib.hid hx
   have M := Lib.hid (V0.out.2 d (List.mem_of_getElem? hx))
   have j3 : (0 : Int) ≤ (i : Int) := by omega
   have j4 : (i : Int) < (N : Int) := by omega
   have j5 : ¬ (i : Int) < 0 := by omega
   clear hf hg hx
   obtain ⟨b, off, ha⟩ := V.out.1.addr (by rw [LN.out]; omega)
   subst ha
   have BV := Lib.hid (show b < W.heap.size from lt_of_cell (V.out.1.cellAt (j := 0) HX.out rfl))
   unfold refA refV at hc ⊢
   go_enter Tryz.func90, Tryz.ntmps90
   go_wp2_with fail
   rw [← hW]
   refine hc.mono ?_
   rintro ev w1 ⟨rfl, hs⟩
   have B := Lib.hid (B0.out.trans (hs.mono B0.out.size))
   have K3 := Lib.hid (blk_step K2.out hs)
   have V3 := Lib.hid (V.out.below hs)
   have a2 := cell_step a2 hs
   have RG := V3.out.1.there (j := 2) (cs := recCells d.sc d.rv d.en) HX.out d.rec_cells
   have hrng : w1.rangeAt b (off + i * 18 + 2) (recCells d.sc d.rv d.en) := RG
   clear hs hc hW a0 a1 r0 r1 RG
   go_wp2_with (first
    | (refine wpList_load_mid rfl 55 (.tmp 28) rfl b (off + i * 18 + 2) rfl (recCells d.sc d.rv d.en) _ hrng Tryz.underlying55 rfl (by kernel_rfl) ?_)
    | (refine wpList_store_mid rfl 55 (.tmp 4) (.tmp 29) rfl (w.heap.size + 1 + 1) 0 (recCells d.sc d.rv d.en).toArray rfl rfl (blk_there K3.out 15 (Nat.le_refl _)) (by kernel_rfl) (rec_one ..) ?_))
   have BE : Below w.heap.size w (w1.setCells (w.heap.size + 1 + 1) 0 (recCells d.sc d.rv d.en)) := B.out.trans ((Kept.setCells (b := w.heap.size + 1 + 1) (recCells d.sc d.rv d.en) 0 _ (Kept.refl _ w1)).below (n := w.heap.size) (fun k h => by omega) B.out.size)
   exact rf_load_end (World.rangeAt_setCells_same _ _ _ _ (blk_there K3.out 15 (Nat.le_refl _))) rfl rfl rfl (by kernel_rfl) ⟨d.rv, d.en, rfl, M.out.1.below BE, M.out.2.below BE, .inr ⟨d, List.mem_of_getElem? HX.out, rfl, rfl, rfl, rfl⟩, BE⟩
open Go.RowKit
theorem putInfo : (Tryz.prog.info? 158).map (fun i => (i.zero, i.size, i.bytes)) = some (some (.agg #[.int .i64 0, .int .i64 0, .int .i64 0, .string ⟨#[]⟩, .string ⟨#[]⟩, .bool false, .int .i64 0, .slice none 0 0, .slice none 0 0, .string ⟨#[]⟩, .string ⟨#[]⟩, .int .i64 0, .int .i64 0, .int .i64 0, .string ⟨#[]⟩, .int .i64 0, .int .i64 0, .bool false]), 18, 216) := by kernel_rfl
theorem lPut_known : lPut.known 216 := known_of putInfo rfl rfl
def arCells (n l : Int) (v : Value) : List Value := [.int .i64 n, .int .i64 l, v]
theorem rf_free_end {w1 : World} {b : Nat} {cs : List Value} {ev : Value} {a : Act} {Q : Ending → World → Prop} (h : w1.rangeAt b 0 cs) (hev : a.tmps.getD 5 undef = ev) (hp : a.tmps.getD 4 undef = .pointer (some ⟨b, 0, none⟩)) (hd : a.defers = [])
  (hi : (Tryz.prog.info? 35).map (·.size) = some cs.length) (hq : Q (.returned (.tuple #[.agg cs.toArray, ev])) w1) : bodyPost Tryz.prog Tryz.f46 Q Exit.ret a w1 :=
 bodyPost_ret (v := .tuple #[.agg cs.toArray, ev]) (results_cellT rfl _ _ b cs _ ev hp hev h Tryz.underlying35 rfl hi) hd hq
theorem blk_range {w : World} {b : Nat} {cs : List Value} {T : TypeId} (h : w.heap[b]? = some (.cells cs.toArray T (0, 0))) : w.rangeAt b 0 cs := fun j u hj => by
 rw [Nat.zero_add, blk_cell h]; simpa using hj
theorem freeM_no {n : Nat} {ps : List Pt} {x y : Int} (h : codeM n ps x y ≠ 0) : freeM n ps x y = ps := by unfold freeM; rw [if_neg h]
theorem set_modify {us : List PuD} {i : Nat} {d : PuD} (h : us[i]? = some d) : (us.set i { d with live := false }).map PuD.pt = (us.map PuD.pt).modify i (fun p => { p with live := false }) := by
 apply List.ext_getElem?
 intro j
 rw [List.getElem?_map, List.getElem?_modify, List.getElem?_map, List.getElem?_set]
 by_cases hj : i = j
 ·subst hj
  rw [if_pos rfl, if_pos (List.getElem?_eq_some_iff.1 h).1, h]
  simp [PuD.pt]
 ·rw [if_neg hj]
  simp [hj]
def NewP (w w' : World) (v v' : Value) (us us' : List PuD) : Prop := OwnS lPut w.heap.size w' v' us' ∨ (v' = v ∧ us' = us)
def Heir (e e0 : PuD) : Prop := e.rv = e0.rv ∧ e.en = e0.en ∧ e.rows = e0.rows ∧ e.ents = e0.ents
theorem Heir.refl (e : PuD) : Heir e e := ⟨rfl, rfl, rfl, rfl⟩
theorem rf_free (n l : Nat) (v : Value) (us : List PuD) (x y : Int) (w : World) (hv : PutsV w v us) (hus : us.length ≤ 1000) :
  Calls Tryz.prog 46 #[refA n l v, refV x y] w fun ev w' => ∃ v' us', ev = .returned (.tuple #[refA n l v', .int .i64 (codeM n (us.map PuD.pt) x y)]) ∧ PutsV w' v' us' ∧ us'.map PuD.pt = freeM n (us.map PuD.pt) x y ∧ us'.length = us.length ∧ (NewP w w' v v' us us' ∧ ∀ e ∈ us', ∃ e0 ∈ us, Heir e e0) ∧ Below w.heap.size w w' := by
 obtain ⟨va, vc, rfl, hlc, hcm⟩ := hv.1.lenform
 have V0 := Lib.hid hv
 obtain ⟨w1, hw1⟩ : ∃ w1, w1 = w.alloc (.cells #[.int .i64 n, .int .i64 l, .slice va us.length vc] 35) := ⟨_, rfl⟩
 obtain ⟨w2, hw2⟩ : ∃ w2, w2 = w1.alloc (.cells #[.int .i64 x, .int .i64 y] 48) := ⟨_, rfl⟩
 obtain ⟨W, hW⟩ : ∃ W, W = w2.alloc (.cells #[.int .i64 0, .int .i64 0, .slice none 0 0] 35) := ⟨_, rfl⟩
 obtain ⟨W3, hW3⟩ : ∃ W, W = w2.alloc (.cells #[.int .i64 n, .int .i64 l, .slice va us.length vc] 35) := ⟨_, rfl⟩
 have b1 := alloc_below0 w (.cells #[.int .i64 n, .int .i64 l, .slice va us.length vc] 35)
 have k1 := blk_new w (.cells #[.int .i64 n, .int .i64 l, .slice va us.length vc] 35)
 rw [← hw1] at b1 k1
 have b2 := alloc_below0 w1 (.cells #[.int .i64 x, .int .i64 y] 48)
 rw [← hw2] at b2
 have b3 := alloc_below0 w2 (.cells #[.int .i64 0, .int .i64 0, .slice none 0 0] 35)
 rw [← hW] at b3
 have b4 := alloc_below0 w2 (.cells #[.int .i64 n, .int .i64 l, .slice va us.length vc] 35)
 rw [← hW3] at b4
 have X0 := XB.new x y w1 48
 rw [← hw2] at X0
 have X := Lib.hid (X0.step b3)
 have K := Lib.hid (blk_step (blk_step k1 b2) b3)
 have B0 := Lib.hid (show Below w.heap.size w W from (b1.trans (b2.mono b1.size)).trans (b3.mono (Nat.le_trans b1.size b2.size)))
 have B3 := Lib.hid (show Below w.heap.size w W3 from (b1.trans (b2.mono b1.size)).trans (b4.mono (Nat.le_trans b1.size b2.size)))
 have V := Lib.hid (show PutsV W (.slice va us.length vc) us from hv.below B0.out)
 have z1 : w1.heap.size = w.heap.size + 1 := by rw [hw1]; simp
 have z2 : w2.heap.size = w.heap.size + 1 + 1 := by rw [hw2]; simp [z1]
 have K2 := Lib.hid (show W.heap[w.heap.size + 1 + 1]? = some (.cells #[.int .i64 0, .int .i64 0, .slice none 0 0] 35) by rw [hW, ← z2]; exact blk_new _ _)
 have K3 := Lib.hid (show W3.heap[w.heap.size + 1 + 1]? = some (.cells (arCells n l (.slice va us.length vc)).toArray 35) by rw [hW3, ← z2]; exact blk_new _ _)
 have Z := Lib.hid (show W.heap.size = w.heap.size + 3 by rw [hW]; simp [z2])
 rw [z1] at X
 rw [hw2, hw1] at hW hW3
 obtain ⟨N, hN⟩ : ∃ N, us.length = N := ⟨_, rfl⟩
 have LN := Lib.hid hN
 unfold maxLen at hcm
 have a0 := blk_cell K.out 0
 have a1 := blk_cell K.out 1
 have a2 := blk_cell K.out 2
 simp only [List.getElem?_toArray, List.getElem?_cons_zero, List.getElem?_cons_succ] at a0 a1 a2
 have r0 := X.out.c0
 have r1 := X.out.c1
 have v1 := V.out
 have hc := ar_rf_find n l (.slice va us.length vc) us x y W v1.1
 rw [hN] at a2 hW hW3 V V0 K K3 hlc hc hus ⊢
 clear hv b1 b2 b3 b4 X0 z1 z2 hw1 hw2 v1 k1
 clear w1 w2
 by_cases hg : x < 1 ∨ (n : Int) < x
 ·have E := Lib.hid (codeM_arg (ps := us.map PuD.pt) (y := y) hg)
  have EF := Lib.hid (freeM_no (n := n) (ps := us.map PuD.pt) (x := x) (y := y) (by rw [E.out]; decide))
  rw [E.out, EF.out]
  clear hc
  unfold refA refV
  rcases hg with hg | hg
  all_goals
   go_enter Tryz.func46, Tryz.ntmps46
   go_wp2
   rw [← hW3]
   exact rf_free_end (blk_range K3.out) rfl rfl rfl (by kernel_rfl) ⟨_, us, rfl, V0.out.below B3.out, rfl, LN.out, ⟨.inr ⟨rfl, rfl⟩, fun e he => ⟨e, he, Heir.refl e⟩⟩, B3.out⟩
 ·have h1 : ¬ x < 1 := fun h => hg (.inl h)
  have h2 : ¬ (n : Int) < x := fun h => hg (.inr h)
  cases hf : findM (us.map PuD.pt) x y with
  | none =>
   have E := Lib.hid (codeM_stale hg hf)
   have EF := Lib.hid (freeM_no (n := n) (ps := us.map PuD.pt) (x := x) (y := y) (by rw [E.out]; decide))
   rw [E.out, EF.out]
   rw [hf] at hc
   simp only [Option.elim_none] at hc
   clear hf hg
   unfold refA refV at hc ⊢
   go_enter Tryz.func46, Tryz.ntmps46
   go_wp2_with fail
   rw [← hW]
   refine hc.mono ?_
   rintro ev w1 ⟨rfl, hs⟩
   have B := Lib.hid (B0.out.trans (hs.mono B0.out.size))
   have K4 := Lib.hid (blk_step K2.out hs)
   have a0 := cell_step a0 hs
   have a1 := cell_step a1 hs
   have a2 := cell_step a2 hs
   have j1 : (-1 : Int) < 0 := by decide
   clear hs hc hW hW3 r0 r1
   obtain ⟨s0, s1, s2, s3, s4, s5, s6⟩ := three_facts K4.out (.int .i64 n) (.int .i64 l) (.slice va N vc)
   have BE := Lib.hid (below_set (below_set (below_set B.out (b := w.heap.size + 1 + 1) (by omega) 0 (.int .i64 n)) (b := w.heap.size + 1 + 1) (by omega) 1 (.int .i64 l)) (b := w.heap.size + 1 + 1) (by omega) 2 (.slice va N vc))
   have S6 := Lib.hid s6
   clear s6
   go_wp2
   exact rf_free_end (blk_range (cs := arCells n l (.slice va N vc)) S6.out) rfl rfl rfl (by kernel_rfl) ⟨_, us, rfl, V0.out.below BE.out, rfl, LN.out, ⟨.inr ⟨rfl, rfl⟩, fun e he => ⟨e, he, Heir.refl e⟩⟩, BE.out⟩
  | some i =>
   have E := Lib.hid (codeM_here hg hf)
   obtain ⟨d, hx⟩ := findM_at hf
   have EF := Lib.hid (show (us.set i { d with live := false }).map PuD.pt = freeM n (us.map PuD.pt) x y by
    unfold freeM; rw [if_pos E.out, hf]; exact set_modify hx)
   rw [E.out, ← EF.out]
   rw [hf] at hc
   simp only [Option.elim_some] at hc
   have hlt : i < N := by rw [← LN.out]; exact (List.getElem?_eq_some_iff.1 hx).1
   have HX := Lib.hid hx
   have j3 : (0 : Int) ≤ (i : Int) := by omega
   have j4 : (i : Int) < (N : Int) := by omega
   have j5 : ¬ (i : Int) < 0 := by omega
   clear hf hg hx
   unfold refA refV at hc ⊢
   go_enter Tryz.func46, Tryz.ntmps46
   go_wp2_with fail
   rw [← hW]
   refine hc.mono ?_
   rintro ev w1 ⟨rfl, hs⟩
   have B := Lib.hid (B0.out.trans (hs.mono B0.out.size))
   have KR := Lib.hid (blk_step K2.out hs)
   have KA := Lib.hid (blk_step K.out hs)
   have V3 := Lib.hid (V.out.below hs)
   have bz := alloc_below0 w1 (.cells #[] 158)
   have a2 := cell_step (cell_step a2 hs) bz
   have V4 := Lib.hid (V3.out.below bz)
   have O0 := Lib.hid (OwnS.lit lPut w1.heap.size w1 w1.heap.size rfl [] (Nat.le_refl _) (by simp))
   have BZ := Lib.hid bz
   have SW := Lib.hid (show w.heap.size + 1 + 1 < w1.heap.size from (Array.getElem?_eq_some_iff.1 KR.out).1)
   have NZ := Lib.hid (show ¬ N = 0 by omega)
   clear hs hc hW a0 a1 r0 r1 hW3 bz
   go_wp2_with (refine wpList_appS lPut 33 Tryz.underlying33 lPut_known (by decide) (by decide) rfl (.tmp 25) (.tmp 27) rfl w1.heap.size rfl rfl O0.out V4.out.1 (by have := LN.out; simp; omega) BZ.out.size ?_
                intro v2 w4 ho2 hg2
                have B4 := Lib.hid (BZ.out.trans ((Kept.of_grown hg2).below (n := w1.heap.size) (fun j hj => by have : j = w1.heap.size := Option.some.inj hj; omega) BZ.out.size))
                rw [List.nil_append] at ho2
                obtain ⟨g, cap, rfl, h1, h2, h3, h4⟩ := ho2.form (by rw [LN.out]; exact NZ.out)
                have G := Lib.hid (show w1.heap.size ≤ g from h1)
                rw [LN.out] at ho2 h4 ⊢
                have OW := Lib.hid ho2
                have z17 := ho2.sv.cellAt (i := i) (j := 17) HX.out rfl
                have f17 := ho2.free (i * 18 + 17)
                simp only [lPut, Nat.zero_add] at z17
                have KA4 := blk_step KA.out B4.out
                have KA5 := blk_off KA4 (b := g) (by have := G.out; have := SW.out; omega) (i * 18 + 17) (.bool false)
                have c5 := blk_cell KA5 2
                have f5 := blk_free KA5 2
                simp only [List.getElem?_toArray, List.getElem?_cons_zero, List.getElem?_cons_succ] at c5
                have KA6 := blk_set KA5 2 (.slice (some ⟨g, 0, none⟩) N cap)
                have d0 := blk_cell KA6 0
                have d1 := blk_cell KA6 1
                have d2 := blk_cell KA6 2
                have KR4 := blk_step KR.out B4.out
                have KR6 := blk_off (blk_off KR4 (b := g) (by have := G.out; have := SW.out; omega) (i * 18 + 17) (.bool false)) (b := w.heap.size) (by omega) 2 (.slice (some ⟨g, 0, none⟩) N cap)
                obtain ⟨s0, s1, s2, s3, s4, s5, s6⟩ := three_facts KR6 (.int .i64 n) (.int .i64 l) (.slice (some ⟨g, 0, none⟩) N cap)
                have S6 := Lib.hid s6
                have O1 := Lib.hid (OwnS.set ho2 (y := { d with live := false }) HX.out (j := 17) (by decide) (u := .bool false) rfl)
                clear ho2 hg2 h1 h2 h3 KA4 KA5 KA6 KR4 KR6 s6)
   have BE := Lib.hid (below_set (below_set (below_set (below_set (below_set (B.out.trans (B4.out.mono (by have := SW.out; omega))) (b := g) (by have := G.out; have := SW.out; omega) (i * 18 + 17) (.bool false)) (b := w.heap.size) (Nat.le_refl _) 2 (.slice (some ⟨g, 0, none⟩) N cap)) (b := w.heap.size + 1 + 1) (by omega) 0 (.int .i64 n)) (b := w.heap.size + 1 + 1) (by omega) 1 (.int .i64 l)) (b := w.heap.size + 1 + 1) (by omega) 2 (.slice (some ⟨g, 0, none⟩) N cap))
   have k1 := (Kept.refl (fun k => k = w.heap.size) (w4.setCell ⟨g, i * 18 + 17, none⟩ (.bool false))).setCell 2 (.slice (some ⟨g, 0, none⟩) N cap)
   have k2 := (((Kept.refl (fun k => k = w.heap.size + 1 + 1) ((w4.setCell ⟨g, i * 18 + 17, none⟩ (.bool false)).setCell ⟨w.heap.size, 2, none⟩ (.slice (some ⟨g, 0, none⟩) N cap))).setCell 0 (.int .i64 n)).setCell 1 (.int .i64 l)).setCell 2 (.slice (some ⟨g, 0, none⟩) N cap)
   have k3 := Kept.trans2 (U := fun k => k < w1.heap.size) k1 k2 (fun x h => by have := SW.out; omega) (fun x h => by have := SW.out; omega)
   have O2f := Lib.hid ((O1.out.kept k3 (O1.out.out fun _ h => h)).mono (b' := w.heap.size) (by have := SW.out; omega))
   have O2 := Lib.hid (O1.out.kept k3 (O1.out.out fun _ h => h)).sv
   clear k1 k2 k3
   exact rf_free_end (blk_range (cs := arCells n l (.slice (some ⟨g, 0, none⟩) N cap)) S6.out) rfl rfl rfl (by kernel_rfl) ⟨_, us.set i { d with live := false }, rfl, ⟨O2.out, fun e he => by
    rcases List.mem_or_eq_of_mem_set he with he | rfl
    ·exact ⟨(V0.out.2 e he).1.below BE.out, (V0.out.2 e he).2.below BE.out⟩
    ·exact ⟨(V0.out.2 d (List.mem_of_getElem? HX.out)).1.below BE.out, (V0.out.2 d (List.mem_of_getElem? HX.out)).2.below BE.out⟩⟩, rfl, by rw [List.length_set]; exact LN.out, ⟨.inl O2f.out, fun e he => by
    rcases List.mem_or_eq_of_mem_set he with he | rfl
    ·exact ⟨e, he, Heir.refl e⟩
    ·exact ⟨d, List.mem_of_getElem? HX.out, rfl, rfl, rfl, rfl⟩⟩, BE.out⟩
open Go.RowKit
theorem results_cellCC {fn : Func} {p q u : Tmp} {ty ty2 : TypeId} (h : fn.results = #[.cell p ty, .cell q ty2, .tmp u]) (tmps : Array Value) (P : Program) (w : World) :
  (results fn tmps).run P w =
   ((asAddr (tmps.getD p undef)).run P w).andThen fun a w₁ => ((loadVar ty a).run P w₁).andThen fun v w₂ => ((asAddr (tmps.getD q undef)).run P w₂).andThen fun a2 w₃ => ((loadVar ty2 a2).run P w₃).andThen fun v2 w₄ => .ok (.tuple #[v, v2, tmps.getD u undef]) w₄ := by
 simp only [results, h]
 simp [Sem.run_bind, Result.andThen]
theorem results_cellCT {fn : Func} {p q u : Tmp} {ty ty2 : TypeId} (h : fn.results = #[.cell p ty, .cell q ty2, .tmp u]) (tmps : Array Value) (w : World) (b b2 : Nat) (cs cs2 : List Value) (d d2 : TypeDesc) (ev : Value) (hp : tmps.getD p undef = .pointer (some ⟨b, 0, none⟩)) (hq : tmps.getD q undef = .pointer (some ⟨b2, 0, none⟩)) (hev : tmps.getD u undef = ev) (hc : w.rangeAt b 0 cs) (hc2 : w.rangeAt b2 0 cs2)
  (hu : Tryz.prog.underlying ty = some d) (hd : d.isRow = true) (hi : (Tryz.prog.info? ty).map (·.size) = some cs.length) (hu2 : Tryz.prog.underlying ty2 = some d2) (hd2 : d2.isRow = true) (hi2 : (Tryz.prog.info? ty2).map (·.size) = some cs2.length) : (results fn tmps).run Tryz.prog w = .ok (.tuple #[.agg cs.toArray, .agg cs2.toArray, ev]) w := by
 have hl := run_loadVar_mid w b 0 ty cs d hc hu hd hi
 have hl2 := run_loadVar_mid w b2 0 ty2 cs2 d2 hc2 hu2 hd2 hi2
 rw [results_cellCC h, hp, hq, hev]
 simp [asAddr, hl, hl2, Result.andThen]
theorem rf_alloc_end {w1 : World} {b b2 : Nat} {cs cs2 : List Value} {ev : Value} {a : Act} {Q : Ending → World → Prop} (h : w1.rangeAt b 0 cs) (h2 : w1.rangeAt b2 0 cs2) (hev : a.tmps.getD 6 undef = ev) (hp : a.tmps.getD 4 undef = .pointer (some ⟨b, 0, none⟩)) (hp2 : a.tmps.getD 5 undef = .pointer (some ⟨b2, 0, none⟩)) (hd : a.defers = [])
  (hi : (Tryz.prog.info? 35).map (·.size) = some cs.length) (hi2 : (Tryz.prog.info? 48).map (·.size) = some cs2.length) (hq : Q (.returned (.tuple #[.agg cs.toArray, .agg cs2.toArray, ev])) w1) : bodyPost Tryz.prog Tryz.f32 Q Exit.ret a w1 :=
 bodyPost_ret (v := .tuple #[.agg cs.toArray, .agg cs2.toArray, ev]) (results_cellCT rfl _ _ b b2 cs cs2 _ _ ev hp hp2 hev h h2 Tryz.underlying35 rfl hi Tryz.underlying48 rfl hi2) hd hq
theorem ar_grown_below {n : Nat} {w0 wx wy : World} {v : Value} {xs : List PuD} (hb : Below n w0 wx) (ho : OwnS lPut n wx v xs) (hg : wx.grownBy wy v.ownBlock) (hn : n ≤ wx.heap.size) : Below n w0 wy ∧ n ≤ wy.heap.size :=
 ⟨hb.trans ((Kept.of_grown hg).below (fun j hj => (ho.bounds j hj.symm).1) hn), Nat.le_trans hn (Kept.of_grown hg).size⟩
theorem out_ne {m j p q c d : Nat} (h : j ≠ m) : Out (fun k => some k = (Value.slice (some ⟨m, 0, none⟩) p q).ownBlock) (.slice (some ⟨j, 0, none⟩) c d) := fun a n c hv hs => by
 obtain ⟨e, -, -⟩ := Value.slice.inj hv
 obtain rfl := Option.some.inj e
 exact h (Option.some.inj hs)
theorem ar_below_drew {n : Nat} {w w' : World} (h : Below n w w') : Below n w w'.drew := h.drew
theorem OwnS.drew {α : Type} {E : Lay α} {b : Nat} {w : World} {v : Value} {xs : List α} (h : OwnS E b w v xs) : OwnS E b w.drew v xs := h.below (Below.refl _ _).drew
theorem SV.drew {α : Type} {E : Lay α} {w : World} {v : Value} {xs : List α} (h : SV E w v xs) : SV E w.drew v xs := h.below (Below.refl _ _).drew
theorem slot_used {l : Nat} {ps : List Pt} {m f : Nat} {e : Int} (h : (slotOf ps m).2 = true) : allocGo l ps (f + 1) m e = allocGo l ps f (m + 1) e := allocGo_used (g := (slotOf ps m).1) (by rw [← h])
theorem slot_free {l : Nat} {ps : List Pt} {m f : Nat} {e : Int} (h : (slotOf ps m).2 = false) (hl : (slotOf ps m).1 < l) : allocGo l ps (f + 1) m e = (m, (slotOf ps m).1 + 1, 0) := allocGo_free (g := (slotOf ps m).1) (by rw [← h]) hl
theorem slot_worn {l : Nat} {ps : List Pt} {m f : Nat} {e : Int} (h : (slotOf ps m).2 = false) (hl : ¬ (slotOf ps m).1 < l) : allocGo l ps (f + 1) m e = allocGo l ps f (m + 1) 5 := allocGo_worn (g := (slotOf ps m).1) (by rw [← h]) hl
theorem putM_no {n l : Nat} {ps : List Pt} {d : RecD} (h : (allocM n l ps).2.2 ≠ 0) : putM n l ps d = ps := by unfold putM; rw [if_neg h]
theorem rf_alloc (n l : Nat) (v r : Value) (us : List PuD) (d : RecD) (w : World) (hv : PutsV w v us) (hr : RecV w r d) (hus : us.length ≤ 1000) (hn : n ≤ 4096) (hl : l ≤ 1099511627776) :
  Calls Tryz.prog 32 #[refA n l v, r] w fun ev w' => ∃ v' us', ev = .returned (.tuple #[refA n l v', refV ((allocM n l (us.map PuD.pt)).1 : Int) ((allocM n l (us.map PuD.pt)).2.1 : Int), .int .i64 (allocM n l (us.map PuD.pt)).2.2]) ∧ PutsV w' v' us' ∧ us'.map PuD.pt = putM n l (us.map PuD.pt) d ∧ us'.length ≤ us.length + 1 ∧ (NewP w w' v v' us us' ∧ ∀ e ∈ us', (∃ e0 ∈ us, Heir e e0) ∨ (r = recVal e.sc e.rv e.en ∧ e.rows = d.rows ∧ e.ents = d.ents)) ∧ Below w.heap.size w w' := by
 obtain ⟨sc, rows, ents⟩ := d
 obtain ⟨rv, en, rfl, hr, he⟩ := hr
 simp only at hr he
 obtain ⟨ra, rc, rfl, -, -⟩ := hr.lenform
 obtain ⟨ea, ec, rfl, -, -⟩ := he.lenform
 obtain ⟨va, vc, rfl, hlc, hcm⟩ := hv.1.lenform
 have V0 := Lib.hid hv
 have R0 := Lib.hid hr
 have E0 := Lib.hid he
 obtain ⟨w1, hw1⟩ : ∃ w1, w1 = w.alloc (.cells #[.int .i64 n, .int .i64 l, .slice va us.length vc] 35) := ⟨_, rfl⟩
 obtain ⟨w2, hw2⟩ : ∃ w2, w2 = w1.alloc (recObj sc (.slice ra rows.length rc) (.slice ea ents.length ec)) := ⟨_, rfl⟩
 obtain ⟨w3, hw3⟩ : ∃ w3, w3 = w2.alloc (.cells #[.int .i64 0, .int .i64 0, .slice none 0 0] 35) := ⟨_, rfl⟩
 obtain ⟨W, hW⟩ : ∃ W, W = w3.alloc (.cells #[.int .i64 0, .int .i64 0] 48) := ⟨_, rfl⟩
 have b1 := alloc_below0 w (.cells #[.int .i64 n, .int .i64 l, .slice va us.length vc] 35)
 have k1 := blk_new w (.cells #[.int .i64 n, .int .i64 l, .slice va us.length vc] 35)
 rw [← hw1] at b1 k1
 have b2 := alloc_below0 w1 (recObj sc (.slice ra rows.length rc) (.slice ea ents.length ec))
 have k2 := blk_new w1 (recObj sc (.slice ra rows.length rc) (.slice ea ents.length ec))
 rw [← hw2] at b2 k2
 have b3 := alloc_below0 w2 (.cells #[.int .i64 0, .int .i64 0, .slice none 0 0] 35)
 have k3 := blk_new w2 (.cells #[.int .i64 0, .int .i64 0, .slice none 0 0] 35)
 rw [← hw3] at b3 k3
 have b4 := alloc_below0 w3 (.cells #[.int .i64 0, .int .i64 0] 48)
 have k4 := blk_new w3 (.cells #[.int .i64 0, .int .i64 0] 48)
 rw [← hW] at b4 k4
 have z1 : w1.heap.size = w.heap.size + 1 := by rw [hw1]; simp
 have z2 : w2.heap.size = w.heap.size + 1 + 1 := by rw [hw2]; simp [z1]
 have z3 : w3.heap.size = w.heap.size + 1 + 1 + 1 := by rw [hw3]; simp [z2]
 have B0 := Lib.hid (show Below w.heap.size w W from ((b1.trans (b2.mono b1.size)).trans (b3.mono (by omega))).trans (b4.mono (by omega)))
 have KA := Lib.hid (blk_step (blk_step (blk_step k1 b2) b3) b4)
 have KR := Lib.hid (blk_step (blk_step k2 b3) b4)
 have KZ := Lib.hid (blk_step k3 b4)
 have KX := Lib.hid k4
 rw [z1] at KR
 rw [z2] at KZ
 rw [z3] at KX
 rw [hw3, hw2, hw1] at hW
 simp only [recObj] at hW
 have ZW := Lib.hid (show w.heap.size + 4 ≤ W.heap.size by have := (Array.getElem?_eq_some_iff.1 KX.out).1; omega)
 have V := Lib.hid (show PutsV W (.slice va us.length vc) us from hv.below B0.out)
 obtain ⟨N, hN⟩ : ∃ N, us.length = N := ⟨_, rfl⟩
 have LN := Lib.hid hN
 obtain ⟨nr, hnr⟩ : ∃ n, rows.length = n := ⟨_, rfl⟩
 obtain ⟨ne, hne⟩ : ∃ n, ents.length = n := ⟨_, rfl⟩
 have LR := Lib.hid hnr
 have LE := Lib.hid hne
 unfold maxLen at hcm
 rw [hN] at hW V V0 KA hlc hus ⊢
 rw [hnr] at hW KR R0 ⊢
 rw [hne] at hW KR E0 ⊢
 obtain ⟨ps, hps⟩ : ∃ ps, us.map PuD.pt = ps := ⟨_, rfl⟩
 have P := Lib.hid hps
 rw [hps]
 clear hv hr he b1 b2 b3 b4 k1 k2 k3 k4 z1 z2 z3 hw1 hw2 hw3 hps hN hnr hne
 clear w1 w2 w3
 unfold refA refV recVal
 go_enter Tryz.func32, Tryz.ntmps32
 go_wp2
 rw [← hW]
 clear hW
 go_loopg [7, 8] n (fun r y i wr => ∃ (k : Nat) (e : Int), k + r = n ∧ i = .int .i64 ((k + 1 : Nat) : Int) ∧ y = .int .i64 e ∧ (e = 3 ∨ e = 5) ∧ allocM n l ps = allocGo l ps (n - k) (k + 1) e ∧ Below W.heap.size W wr)
 case atStart => exact ⟨0, 3, by omega, rfl, rfl, .inl rfl, rfl, Below.refl _ _⟩
 case round =>
  obtain ⟨k, e, hk, rfl, rfl, he, hal, hB⟩ := hrel
  have A := Lib.hid (show (e = 3 ∨ e = 5) ∧ allocM n l ps = allocGo l ps (n - k) (k + 1) e ∧ Below W.heap.size W wr ∧ k + gk = n from ⟨he, hal, hB, hk⟩)
  have KA1 := Lib.hid (blk_step KA.out hB)
  have V1 := Lib.hid (V.out.below hB)
  have a0 := blk_cell KA1.out 0
  have a1 := blk_cell KA1.out 1
  have a2 := blk_cell KA1.out 2
  simp only [List.getElem?_toArray, List.getElem?_cons_zero, List.getElem?_cons_succ] at a0 a1 a2
  clear he hal hB
  by_cases hlt : k < n
  ·have j1 : ((k + 1 : Nat) : Int) ≤ (n : Int) := by omega
   have hnk := Lib.hid (show n - k = (n - (k + 1)) + 1 by omega)
   have SL := rf_slot n l _ us (k + 1) wr V1.out.1
   unfold refA at SL
   go_wp2_with fail
   refine SL.mono ?_
   rintro ev w3 ⟨rfl, hs⟩
   rw [P.out]
   have B3 := Lib.hid (A.out.2.2.1.trans (hs.mono A.out.2.2.1.size))
   have KA3 := Lib.hid (blk_step KA1.out hs)
   have a0 := cell_step a0 hs
   have a1 := cell_step a1 hs
   have a2 := cell_step a2 hs
   clear hs SL
   cases hst : (slotOf ps (k + 1)).2 with
   | true =>
    have T := Lib.hid (show allocM n l ps = allocGo l ps (n - (k + 1)) (k + 1 + 1) e by rw [A.out.2.1, hnk.out]; exact slot_used hst)
    obtain ⟨g, hgg⟩ : ∃ g, (slotOf ps (k + 1)).1 = g := ⟨_, rfl⟩
    rw [hgg]
    clear hst hgg
    go_wp2
    go_roundg (n - (k + 1))
    case measure => have := A.out.2.2.2; omega
    case rel => exact ⟨k + 1, e, by omega, by go_num, rfl, A.out.1, T.out, B3.out⟩
   | false =>
    by_cases hg : (slotOf ps (k + 1)).1 < l
    ·have T := Lib.hid (show allocM n l ps = (k + 1, (slotOf ps (k + 1)).1 + 1, 0) by rw [A.out.2.1, hnk.out]; exact slot_free hst hg)
     obtain ⟨g, hgg⟩ : ∃ g, (slotOf ps (k + 1)).1 = g := ⟨_, rfl⟩
     rw [hgg] at T hg ⊢
     have e1 : (g : Int) < (l : Int) := by omega
     have i1 : IntKind.i64.wrap ((g : Int) + 1) = (g : Int) + 1 := Go.IntWalk.i64_in _ (by omega)
     clear hst hgg
     go_wp2_with fail
     obtain ⟨w0, hw0⟩ : ∃ w0, w0 = w3.alloc (.cells #[.int .i64 ((k : Int) + 1), .int .i64 ((g : Int) + 1)] 48) := ⟨_, rfl⟩
     rw [← hw0]
     have bx := alloc_below0 w3 (.cells #[.int .i64 ((k : Int) + 1), .int .i64 ((g : Int) + 1)] 48)
     have kx := blk_new w3 (.cells #[.int .i64 ((k : Int) + 1), .int .i64 ((g : Int) + 1)] 48)
     rw [← hw0] at bx kx
     have BX := Lib.hid (B3.out.trans (bx.mono B3.out.size))
     have KA0 := Lib.hid (blk_step KA3.out bx)
     have KX0 := Lib.hid kx
     have KR0 := Lib.hid (blk_step KR.out BX.out)
     have V3 := Lib.hid (V.out.below BX.out)
     have HS := Lib.hid (show ∀ w', Below w0.heap.size w0 w' → w'.cell? ⟨w.heap.size, 2, none⟩ = some (.slice va N vc) ∧ w'.cell? ⟨w3.heap.size, 0, none⟩ = some (.int .i64 ((k : Int) + 1)) ∧ w'.cell? ⟨w3.heap.size, 1, none⟩ = some (.int .i64 ((g : Int) + 1)) ∧ w'.cell? ⟨w.heap.size + 1, 0, none⟩ = some (.int .i64 sc.kind) ∧ w'.cell? ⟨w.heap.size + 1, 1, none⟩ = some (.string sc.low) ∧ w'.cell? ⟨w.heap.size + 1, 2, none⟩ = some (.string sc.high) ∧ w'.cell? ⟨w.heap.size + 1, 3, none⟩ = some (.bool sc.unb) ∧ w'.cell? ⟨w.heap.size + 1, 4, none⟩ = some (.int .i64 sc.right) ∧ w'.cell? ⟨w.heap.size + 1, 5, none⟩ = some (.slice ra nr rc) ∧ w'.cell? ⟨w.heap.size + 1, 6, none⟩ = some (.slice ea ne ec) ∧ w'.cell? ⟨w.heap.size + 1, 7, none⟩ = some (.string sc.key) ∧ w'.cell? ⟨w.heap.size + 1, 8, none⟩ = some (.string sc.value) ∧ w'.cell? ⟨w.heap.size + 1, 9, none⟩ = some (.int .i64 sc.page) ∧ w'.cell? ⟨w.heap.size + 1, 10, none⟩ = some (.int .i64 sc.hp) ∧ w'.cell? ⟨w.heap.size + 1, 11, none⟩ = some (.int .i64 sc.hl) ∧ w'.cell? ⟨w.heap.size + 1, 12, none⟩ = some (.string sc.hk) ∧ w'.cell? ⟨w.heap.size + 1, 13, none⟩ = some (.int .i64 sc.ns) ∧ w'.cell? ⟨w.heap.size + 1, 14, none⟩ = some (.int .i64 sc.ng) from fun w' hb => by
      have q0 := blk_step KA0.out hb
      have q1 := blk_step KX0.out hb
      have q2 := blk_step KR0.out hb
      exact ⟨blk_cell q0 2, blk_cell q1 0, blk_cell q1 1, blk_cell q2 0, blk_cell q2 1, blk_cell q2 2, blk_cell q2 3, blk_cell q2 4, blk_cell q2 5, blk_cell q2 6, blk_cell q2 7, blk_cell q2 8, blk_cell q2 9, blk_cell q2 10, blk_cell q2 11, blk_cell q2 12, blk_cell q2 13, blk_cell q2 14⟩)
     have BD := Lib.hid (show Below w0.heap.size w0 w0.drew from (Below.refl _ _).drew)
     clear hw0 bx kx a0 a1 a2 j1 e1 i1
     have ONE := Lib.hid (show ∀ wx : World, SV lPut (wx.alloc (.cells #[.int .i64 ((k : Int) + 1), .int .i64 ((g : Int) + 1), .int .i64 sc.kind, .string sc.low, .string sc.high, .bool sc.unb, .int .i64 sc.right, .slice ra nr rc, .slice ea ne ec, .string sc.key, .string sc.value, .int .i64 sc.page, .int .i64 sc.hp, .int .i64 sc.hl, .string sc.hk, .int .i64 sc.ns, .int .i64 sc.ng, .bool true] 158)) (.slice (some ⟨wx.heap.size, 0, none⟩) 1 1) [⟨k + 1, g + 1, sc, ra, rc, ea, ec, rows, ents, true⟩] from fun wx => by
      have h := (OwnS.lit lPut 0 wx wx.heap.size rfl [⟨k + 1, g + 1, sc, ra, rc, ea, ec, rows, ents, true⟩] (Nat.zero_le _) (by simp [maxLen])).sv
      rw [show (lPut.flat [(⟨k + 1, g + 1, sc, ra, rc, ea, ec, rows, ents, true⟩ : PuD)]).toArray = #[.int .i64 ((k : Int) + 1), .int .i64 ((g : Int) + 1), .int .i64 sc.kind, .string sc.low, .string sc.high, .bool sc.unb, .int .i64 sc.right, .slice ra nr rc, .slice ea ne ec, .string sc.key, .string sc.value, .int .i64 sc.page, .int .i64 sc.hp, .int .i64 sc.hl, .string sc.hk, .int .i64 sc.ns, .int .i64 sc.ng, .bool true] by simp [lPut, Lay.flat, PuD.cells, LR.out, LE.out]] at h
      exact h)
     have NIL := Lib.hid (show ∀ wx : World, w0.heap.size ≤ wx.heap.size → OwnS lPut w0.heap.size (wx.alloc (.cells #[] 158)) (.slice (some ⟨wx.heap.size, 0, none⟩) 0 0) [] from fun wx h => OwnS.lit lPut w0.heap.size wx wx.heap.size rfl [] h (by simp))
     have Z1 := Lib.hid (show (w0.alloc (.cells #[] 158)).heap.size = w0.heap.size + 1 ∧ (w0.alloc (.cells #[.int .i64 ((k : Int) + 1), .int .i64 ((g : Int) + 1), .int .i64 sc.kind, .string sc.low, .string sc.high, .bool sc.unb, .int .i64 sc.right, .slice ra nr rc, .slice ea ne ec, .string sc.key, .string sc.value, .int .i64 sc.page, .int .i64 sc.hp, .int .i64 sc.hl, .string sc.hk, .int .i64 sc.ns, .int .i64 sc.ng, .bool true] 158)).heap.size = w0.heap.size + 1 from ⟨by simp, by simp⟩)
     have b0 := alloc_below0 w0 (.cells #[] 158)
     have b1 := alloc_below0 w0 (.cells #[.int .i64 ((k : Int) + 1), .int .i64 ((g : Int) + 1), .int .i64 sc.kind, .string sc.low, .string sc.high, .bool sc.unb, .int .i64 sc.right, .slice ra nr rc, .slice ea ne ec, .string sc.key, .string sc.value, .int .i64 sc.page, .int .i64 sc.hp, .int .i64 sc.hl, .string sc.hk, .int .i64 sc.ns, .int .i64 sc.ng, .bool true] 158)
     have BW := Lib.hid (show Below w0.heap.size w0 (w0.alloc (.cells #[] 158)) ∧ Below w0.heap.size w0 (w0.alloc (.cells #[.int .i64 ((k : Int) + 1), .int .i64 ((g : Int) + 1), .int .i64 sc.kind, .string sc.low, .string sc.high, .bool sc.unb, .int .i64 sc.right, .slice ra nr rc, .slice ea ne ec, .string sc.key, .string sc.value, .int .i64 sc.page, .int .i64 sc.hp, .int .i64 sc.hl, .string sc.hk, .int .i64 sc.ns, .int .i64 sc.ng, .bool true] 158)) ∧ Below w0.heap.size w0 ((w0.alloc (.cells #[] 158)).alloc (.cells #[.int .i64 ((k : Int) + 1), .int .i64 ((g : Int) + 1), .int .i64 sc.kind, .string sc.low, .string sc.high, .bool sc.unb, .int .i64 sc.right, .slice ra nr rc, .slice ea ne ec, .string sc.key, .string sc.value, .int .i64 sc.page, .int .i64 sc.hp, .int .i64 sc.hl, .string sc.hk, .int .i64 sc.ns, .int .i64 sc.ng, .bool true] 158)) ∧ Below w0.heap.size w0 ((w0.alloc (.cells #[.int .i64 ((k : Int) + 1), .int .i64 ((g : Int) + 1), .int .i64 sc.kind, .string sc.low, .string sc.high, .bool sc.unb, .int .i64 sc.right, .slice ra nr rc, .slice ea ne ec, .string sc.key, .string sc.value, .int .i64 sc.page, .int .i64 sc.hp, .int .i64 sc.hl, .string sc.hk, .int .i64 sc.ns, .int .i64 sc.ng, .bool true] 158)).alloc (.cells #[] 158)) from ⟨b0, b1, b0.trans ((alloc_below0 _ _).mono b0.size), b1.trans ((alloc_below0 _ _).mono b1.size)⟩)
     clear b0 b1
     refine AnyBut.region (fun w' => w'.cell? ⟨w.heap.size, 2, none⟩ = some (.slice va N vc) ∧ w'.cell? ⟨w3.heap.size, 0, none⟩ = some (.int .i64 ((k : Int) + 1)) ∧ w'.cell? ⟨w3.heap.size, 1, none⟩ = some (.int .i64 ((g : Int) + 1)) ∧ w'.cell? ⟨w.heap.size + 1, 0, none⟩ = some (.int .i64 sc.kind) ∧ w'.cell? ⟨w.heap.size + 1, 1, none⟩ = some (.string sc.low) ∧ w'.cell? ⟨w.heap.size + 1, 2, none⟩ = some (.string sc.high) ∧ w'.cell? ⟨w.heap.size + 1, 3, none⟩ = some (.bool sc.unb) ∧ w'.cell? ⟨w.heap.size + 1, 4, none⟩ = some (.int .i64 sc.right) ∧ w'.cell? ⟨w.heap.size + 1, 5, none⟩ = some (.slice ra nr rc) ∧ w'.cell? ⟨w.heap.size + 1, 6, none⟩ = some (.slice ea ne ec) ∧ w'.cell? ⟨w.heap.size + 1, 7, none⟩ = some (.string sc.key) ∧ w'.cell? ⟨w.heap.size + 1, 8, none⟩ = some (.string sc.value) ∧ w'.cell? ⟨w.heap.size + 1, 9, none⟩ = some (.int .i64 sc.page) ∧ w'.cell? ⟨w.heap.size + 1, 10, none⟩ = some (.int .i64 sc.hp) ∧ w'.cell? ⟨w.heap.size + 1, 11, none⟩ = some (.int .i64 sc.hl) ∧ w'.cell? ⟨w.heap.size + 1, 12, none⟩ = some (.string sc.hk) ∧ w'.cell? ⟨w.heap.size + 1, 13, none⟩ = some (.int .i64 sc.ns) ∧ w'.cell? ⟨w.heap.size + 1, 14, none⟩ = some (.int .i64 sc.ng)) 10 (by kernel_rfl) ?_
     refine tkB (i := 1) (oi := ⟨some 37, _, _, _, _, none⟩) (v := ?v1) rfl (Or.inl ⟨by rfl, ?hy1⟩) (HS.out _ BD.out) ?rest1
     case hy1 => (intro w hSw; go_simp; try (with_reducible rfl))
     simp only [Act.put, sT, sZ, sS]
     refine tkB (i := 2) (oi := ⟨some 38, _, _, _, _, none⟩) (v := ?v2) rfl (Or.inl ⟨by rfl, ?hy2⟩) (HS.out _ BD.out) ?rest2
     case hy2 => (intro w hSw; go_simp; try (with_reducible rfl))
     simp only [Act.put, sT, sZ, sS]
     refine tkB (i := 4) (oi := ⟨some 40, _, _, _, _, none⟩) (v := ?v4) rfl (Or.inl ⟨by rfl, ?hy4⟩) (HS.out _ BD.out) ?rest4
     case hy4 => (intro w hSw; go_simp; try (with_reducible rfl))
     simp only [Act.put, sT, sZ, sS]
     refine tkB (i := 5) (oi := ⟨some 41, _, _, _, _, none⟩) (v := ?v5) rfl (Or.inl ⟨by rfl, ?hy5⟩) (HS.out _ BD.out) ?rest5
     case hy5 => (intro w hSw; go_simp; try (with_reducible rfl))
     simp only [Act.put, sT, sZ, sS]
     refine tkB (i := 6) (oi := ⟨some 42, _, _, _, _, none⟩) (v := ?v6) rfl (Or.inl ⟨by rfl, ?hy6⟩) (HS.out _ BD.out) ?rest6
     case hy6 => (intro w hSw; go_simp; try (with_reducible rfl))
     simp only [Act.put, sT, sZ, sS]
     refine AnyBut.two (i := 0) (j := 7) (o := ⟨some 36, _, _, _, _, none⟩) (u := ⟨some 43, _, _, _, _, none⟩) (by kernel_rfl) rfl rfl (fun K hK => ?_) (fun K hK => ?_)
     rotate_left
     go_simp
     refine hK.out _ _ (fun _ => HS.out _ (ar_below_drew BW.out.2.1)) ?_
     clear hK K
     try simp only [Act.put, sT, sZ, sS]
     refine AnyBut.one (i := 0) (o := ⟨some 36, _, _, _, _, none⟩) (by kernel_rfl) rfl (fun K hK => ?_)
     go_simp
     refine hK.out _ _ (fun _ => HS.out _ (ar_below_drew BW.out.2.2.2)) ?_
     clear hK K
     try simp only [Act.put, sT, sZ, sS]
     refine AnyBut.one (i := 3) (o := ⟨some 39, _, _, _, _, none⟩) (by kernel_rfl) rfl (fun K hK => ?_)
     refine step_appS lPut 33 Tryz.underlying33 lPut_known (by decide) (by decide) rfl (.tmp 36) (.tmp 38) rfl w0.heap.size rfl rfl (by have h := (NIL.out (w0.alloc (.cells #[.int .i64 ((k : Int) + 1), .int .i64 ((g : Int) + 1), .int .i64 sc.kind, .string sc.low, .string sc.high, .bool sc.unb, .int .i64 sc.right, .slice ra nr rc, .slice ea ne ec, .string sc.key, .string sc.value, .int .i64 sc.page, .int .i64 sc.hp, .int .i64 sc.hl, .string sc.hk, .int .i64 sc.ns, .int .i64 sc.ng, .bool true] 158)) (by rw [Z1.out.2]; omega)).drew; rw [Z1.out.2] at h; exact h) (V3.out.1.below (ar_below_drew BW.out.2.2.2)) (by have := LN.out; simp; omega) ((ar_below_drew BW.out.2.2.2)).size ?_
     intro v2 w4 ho hg
     have P2 := Lib.hid (ar_grown_below (ar_below_drew BW.out.2.2.2) (by have h := (NIL.out (w0.alloc (.cells #[.int .i64 ((k : Int) + 1), .int .i64 ((g : Int) + 1), .int .i64 sc.kind, .string sc.low, .string sc.high, .bool sc.unb, .int .i64 sc.right, .slice ra nr rc, .slice ea ne ec, .string sc.key, .string sc.value, .int .i64 sc.page, .int .i64 sc.hp, .int .i64 sc.hl, .string sc.hk, .int .i64 sc.ns, .int .i64 sc.ng, .bool true] 158)) (by rw [Z1.out.2]; omega)).drew; rw [Z1.out.2] at h; exact h) hg ((ar_below_drew BW.out.2.2.2)).size)
     have R2 := Lib.hid (((ONE.out w0).below (alloc_below0 _ (.cells #[] 158))).drew.kept (Kept.of_grown hg) (out_ne (by omega)))
     rw [List.nil_append] at ho
     have O2 := Lib.hid ho
     clear ho hg
     refine hK.out _ _ (fun _ => HS.out _ P2.out.1) ?_
     clear hK K
     try simp only [Act.put, sT, sZ, sS]
     refine AnyBut.one (i := 8) (o := ⟨some 44, _, _, _, _, none⟩) (by kernel_rfl) rfl (fun K hK => ?_)
     refine step_appS lPut 33 Tryz.underlying33 lPut_known (by decide) (by decide) rfl (.tmp 39) (.tmp 43) rfl w0.heap.size rfl rfl O2.out R2.out (by have := LN.out; simp; omega) (P2.out.1).size ?_
     intro v3 w5 ho hg
     have P3 := Lib.hid (ar_grown_below P2.out.1 O2.out hg (P2.out.1).size)
     have O3 := Lib.hid ho
     clear ho hg
     refine hK.out _ _ (fun _ => HS.out _ P3.out.1) ?_
     clear hK K
     try simp only [Act.put, sT, sZ, sS]
     refine AnyBut.one (i := 9) (o := ⟨some 45, _, _, _, _, none⟩) (by kernel_rfl) rfl (fun K hK => ?_)
     go_simp
     refine hK.out _ _ (fun _ => HS.out _ P3.out.1) ?_
     clear hK K
     try simp only [Act.put, sT, sZ, sS]
     obtain ⟨gg, cap, rfl, h1, h2, h3, h4⟩ := O3.out.form (by simp)
     obtain ⟨NN, hNN⟩ : ∃ NN, (us ++ [(⟨k + 1, g + 1, sc, ra, rc, ea, ec, rows, ents, true⟩ : PuD)]).length = NN := ⟨_, rfl⟩
     have GN := Lib.hid hNN
     rw [hNN] at O3 h4 ⊢
     clear hNN
     have KA5 := blk_step KA0.out P3.out.1
     have c5 := blk_cell KA5 2
     have f5 := blk_free KA5 2
     simp only [List.getElem?_toArray, List.getElem?_cons_zero, List.getElem?_cons_succ] at c5
     have KA6 := Lib.hid (blk_set KA5 2 (.slice (some ⟨gg, 0, none⟩) NN cap))
     have G := Lib.hid (show w0.heap.size ≤ gg from h1)
     clear h1 h2 h3 h4 KA5
     refine AnyBut.one (i := 10) (o := ⟨none, _, _, _, _, none⟩) (by kernel_rfl) rfl (fun K hK => ?_)
     go_simp
     refine hK.out _ _ (fun h => absurd rfl h) ?_
     clear hK K c5 f5
     try simp only [Act.put, sT, sZ, sS]
     refine AnyBut.done (by kernel_rfl) ?_ _
     rotate_left
     go_simp
     refine hK.out _ _ (fun _ => HS.out _ (ar_below_drew BW.out.1)) ?_
     clear hK K
     try simp only [Act.put, sT, sZ, sS]
     refine AnyBut.two (i := 3) (j := 7) (o := ⟨some 39, _, _, _, _, none⟩) (u := ⟨some 43, _, _, _, _, none⟩) (by kernel_rfl) rfl rfl (fun K hK => ?_) (fun K hK => ?_)
     rotate_left
     go_simp
     refine hK.out _ _ (fun _ => HS.out _ (ar_below_drew BW.out.2.2.1)) ?_
     clear hK K
     try simp only [Act.put, sT, sZ, sS]
     refine AnyBut.one (i := 3) (o := ⟨some 39, _, _, _, _, none⟩) (by kernel_rfl) rfl (fun K hK => ?_)
     refine step_appS lPut 33 Tryz.underlying33 lPut_known (by decide) (by decide) rfl (.tmp 36) (.tmp 38) rfl w0.heap.size rfl rfl ((NIL.out w0 (Nat.le_refl _)).below (alloc_below0 _ _)).drew (V3.out.1.below (ar_below_drew BW.out.2.2.1)) (by have := LN.out; simp; omega) ((ar_below_drew BW.out.2.2.1)).size ?_
     intro v2 w4 ho hg
     have P2 := Lib.hid (ar_grown_below (ar_below_drew BW.out.2.2.1) ((NIL.out w0 (Nat.le_refl _)).below (alloc_below0 _ _)).drew hg ((ar_below_drew BW.out.2.2.1)).size)
     have R2 := Lib.hid (((ONE.out (w0.alloc (.cells #[] 158))).drew).kept (Kept.of_grown hg) (out_ne (by rw [Z1.out.1]; omega)))
     rw [List.nil_append] at ho
     have O2 := Lib.hid ho
     clear ho hg
     refine hK.out _ _ (fun _ => HS.out _ P2.out.1) ?_
     clear hK K
     try simp only [Act.put, sT, sZ, sS]
     rw [Z1.out.1] at R2
     refine AnyBut.one (i := 8) (o := ⟨some 44, _, _, _, _, none⟩) (by kernel_rfl) rfl (fun K hK => ?_)
     refine step_appS lPut 33 Tryz.underlying33 lPut_known (by decide) (by decide) rfl (.tmp 39) (.tmp 43) rfl w0.heap.size rfl rfl O2.out R2.out (by have := LN.out; simp; omega) (P2.out.1).size ?_
     intro v3 w5 ho hg
     have P3 := Lib.hid (ar_grown_below P2.out.1 O2.out hg (P2.out.1).size)
     have O3 := Lib.hid ho
     clear ho hg
     refine hK.out _ _ (fun _ => HS.out _ P3.out.1) ?_
     clear hK K
     try simp only [Act.put, sT, sZ, sS]
     refine AnyBut.one (i := 9) (o := ⟨some 45, _, _, _, _, none⟩) (by kernel_rfl) rfl (fun K hK => ?_)
     go_simp
     refine hK.out _ _ (fun _ => HS.out _ P3.out.1) ?_
     clear hK K
     try simp only [Act.put, sT, sZ, sS]
     obtain ⟨gg, cap, rfl, h1, h2, h3, h4⟩ := O3.out.form (by simp)
     obtain ⟨NN, hNN⟩ : ∃ NN, (us ++ [(⟨k + 1, g + 1, sc, ra, rc, ea, ec, rows, ents, true⟩ : PuD)]).length = NN := ⟨_, rfl⟩
     have GN := Lib.hid hNN
     rw [hNN] at O3 h4 ⊢
     clear hNN
     have KA5 := blk_step KA0.out P3.out.1
     have c5 := blk_cell KA5 2
     have f5 := blk_free KA5 2
     simp only [List.getElem?_toArray, List.getElem?_cons_zero, List.getElem?_cons_succ] at c5
     have KA6 := Lib.hid (blk_set KA5 2 (.slice (some ⟨gg, 0, none⟩) NN cap))
     have G := Lib.hid (show w0.heap.size ≤ gg from h1)
     clear h1 h2 h3 h4 KA5
     refine AnyBut.one (i := 10) (o := ⟨none, _, _, _, _, none⟩) (by kernel_rfl) rfl (fun K hK => ?_)
     go_simp
     refine hK.out _ _ (fun h => absurd rfl h) ?_
     clear hK K c5 f5
     try simp only [Act.put, sT, sZ, sS]
     refine AnyBut.done (by kernel_rfl) ?_ _
     rotate_left 2
     refine step_appS lPut 33 Tryz.underlying33 lPut_known (by decide) (by decide) rfl (.tmp 36) (.tmp 38) rfl w0.heap.size rfl rfl (NIL.out w0 (Nat.le_refl _)).drew (V3.out.1.below (ar_below_drew BW.out.1)) (by have := LN.out; simp; omega) ((ar_below_drew BW.out.1)).size ?_
     intro v2 w4 ho hg
     have P2 := Lib.hid (ar_grown_below (ar_below_drew BW.out.1) (NIL.out w0 (Nat.le_refl _)).drew hg ((ar_below_drew BW.out.1)).size)
     rw [List.nil_append] at ho
     have O2 := Lib.hid ho
     clear ho hg
     refine hK.out _ _ (fun _ => HS.out _ P2.out.1) ?_
     clear hK K
     try simp only [Act.put, sT, sZ, sS]
     refine AnyBut.one (i := 7) (o := ⟨some 43, _, _, _, _, none⟩) (by kernel_rfl) rfl (fun K hK => ?_)
     go_simp
     have b4 := alloc_below0 w4 (.cells #[.int .i64 ((k : Int) + 1), .int .i64 ((g : Int) + 1), .int .i64 sc.kind, .string sc.low, .string sc.high, .bool sc.unb, .int .i64 sc.right, .slice ra nr rc, .slice ea ne ec, .string sc.key, .string sc.value, .int .i64 sc.page, .int .i64 sc.hp, .int .i64 sc.hl, .string sc.hk, .int .i64 sc.ns, .int .i64 sc.ng, .bool true] 158)
     have P4 := Lib.hid (show Below w0.heap.size w0 (w4.alloc (.cells #[.int .i64 ((k : Int) + 1), .int .i64 ((g : Int) + 1), .int .i64 sc.kind, .string sc.low, .string sc.high, .bool sc.unb, .int .i64 sc.right, .slice ra nr rc, .slice ea ne ec, .string sc.key, .string sc.value, .int .i64 sc.page, .int .i64 sc.hp, .int .i64 sc.hl, .string sc.hk, .int .i64 sc.ns, .int .i64 sc.ng, .bool true] 158)) from P2.out.1.trans (b4.mono P2.out.2))
     have OB := Lib.hid (O2.out.below b4)
     clear b4
     refine hK.out _ _ (fun _ => HS.out _ P4.out) ?_
     clear hK K
     try simp only [Act.put, sT, sZ, sS]
     refine AnyBut.one (i := 8) (o := ⟨some 44, _, _, _, _, none⟩) (by kernel_rfl) rfl (fun K hK => ?_)
     refine step_appS lPut 33 Tryz.underlying33 lPut_known (by decide) (by decide) rfl (.tmp 39) (.tmp 43) rfl w0.heap.size rfl rfl OB.out (ONE.out w4) (by have := LN.out; simp; omega) (P4.out).size ?_
     intro v3 w5 ho hg
     have P3 := Lib.hid (ar_grown_below P4.out OB.out hg (P4.out).size)
     have O3 := Lib.hid ho
     clear ho hg
     refine hK.out _ _ (fun _ => HS.out _ P3.out.1) ?_
     clear hK K
     try simp only [Act.put, sT, sZ, sS]
     refine AnyBut.one (i := 9) (o := ⟨some 45, _, _, _, _, none⟩) (by kernel_rfl) rfl (fun K hK => ?_)
     go_simp
     refine hK.out _ _ (fun _ => HS.out _ P3.out.1) ?_
     clear hK K
     try simp only [Act.put, sT, sZ, sS]
     obtain ⟨gg, cap, rfl, h1, h2, h3, h4⟩ := O3.out.form (by simp)
     obtain ⟨NN, hNN⟩ : ∃ NN, (us ++ [(⟨k + 1, g + 1, sc, ra, rc, ea, ec, rows, ents, true⟩ : PuD)]).length = NN := ⟨_, rfl⟩
     have GN := Lib.hid hNN
     rw [hNN] at O3 h4 ⊢
     clear hNN
     have KA5 := blk_step KA0.out P3.out.1
     have c5 := blk_cell KA5 2
     have f5 := blk_free KA5 2
     simp only [List.getElem?_toArray, List.getElem?_cons_zero, List.getElem?_cons_succ] at c5
     have KA6 := Lib.hid (blk_set KA5 2 (.slice (some ⟨gg, 0, none⟩) NN cap))
     have G := Lib.hid (show w0.heap.size ≤ gg from h1)
     clear h1 h2 h3 h4 KA5
     refine AnyBut.one (i := 10) (o := ⟨none, _, _, _, _, none⟩) (by kernel_rfl) rfl (fun K hK => ?_)
     go_simp
     refine hK.out _ _ (fun h => absurd rfl h) ?_
     clear hK K c5 f5
     try simp only [Act.put, sT, sZ, sS]
     refine AnyBut.done (by kernel_rfl) ?_ _
     ·have Y0 := Lib.hid (BX.out.trans (P3.out.1.mono BX.out.size))
      have W3 := Lib.hid (show w.heap.size + 4 ≤ w3.heap.size from Nat.le_trans ZW.out B3.out.size)
      have W0 := Lib.hid (show w.heap.size + 4 ≤ w0.heap.size from Nat.le_trans ZW.out BX.out.size)
      obtain ⟨w7, hw7⟩ : ∃ w7, w7 = (w5.setCell ⟨w.heap.size, 2, none⟩ (.slice (some ⟨gg, 0, none⟩) NN cap)).drew := ⟨_, rfl⟩
      have KA7 : w7.heap[w.heap.size]? = some (.cells #[.int .i64 n, .int .i64 l, (.slice (some ⟨gg, 0, none⟩) NN cap)] 35 (0, 0)) := by rw [hw7]; exact KA6.out
      have KX7 : w7.heap[w3.heap.size]? = some (.cells #[.int .i64 ((k : Int) + 1), .int .i64 ((g : Int) + 1)] 48 (0, 0)) := by rw [hw7]; exact blk_off (blk_step KX0.out P3.out.1) (b := w.heap.size) (by have := W3.out; omega) 2 (.slice (some ⟨gg, 0, none⟩) NN cap)
      have KZ7 : w7.heap[w.heap.size + 1 + 1]? = some (.cells #[.int .i64 0, .int .i64 0, .slice none 0 0] 35 (0, 0)) := by rw [hw7]; exact blk_off (blk_step KZ.out Y0.out) (b := w.heap.size) (by omega) 2 (.slice (some ⟨gg, 0, none⟩) NN cap)
      have KR7 : w7.heap[w.heap.size + 1 + 1 + 1]? = some (.cells #[.int .i64 0, .int .i64 0] 48 (0, 0)) := by rw [hw7]; exact blk_off (blk_step KX.out Y0.out) (b := w.heap.size) (by omega) 2 (.slice (some ⟨gg, 0, none⟩) NN cap)
      have B7 := Lib.hid (show Below w.heap.size w w7 by rw [hw7]; exact (below_set (B0.out.trans (Y0.out.mono B0.out.size)) (b := w.heap.size) (Nat.le_refl _) 2 (.slice (some ⟨gg, 0, none⟩) NN cap)).drew)
      have KK := Lib.hid (show Kept (fun j => j < w0.heap.size) w5 w7 by rw [hw7]; exact (((Kept.refl (fun j => j = w.heap.size) w5).setCell 2 (.slice (some ⟨gg, 0, none⟩) NN cap)).wide (fun j _ h => by have := W0.out; omega)).drew)
      have d0 := blk_cell KA7 0
      have d1 := blk_cell KA7 1
      have d2 := blk_cell KA7 2
      have x0 := blk_cell KX7 0
      have x1 := blk_cell KX7 1
      simp only [List.getElem?_toArray, List.getElem?_cons_zero, List.getElem?_cons_succ] at d0 d1 d2 x0 x1
      obtain ⟨s0, s1, s2, s3, s4, s5, s6⟩ := three_facts KZ7 (.int .i64 n) (.int .i64 l) (.slice (some ⟨gg, 0, none⟩) NN cap)
      have KR8 := blk_off (blk_off (blk_off KR7 (b := w.heap.size + 1 + 1) (by have := W3.out; omega) 0 (.int .i64 n)) (b := w.heap.size + 1 + 1) (by have := W3.out; omega) 1 (.int .i64 l)) (b := w.heap.size + 1 + 1) (by have := W3.out; omega) 2 (.slice (some ⟨gg, 0, none⟩) NN cap)
      have KA8 := Lib.hid (blk_off (blk_off (blk_off KA7 (b := w.heap.size + 1 + 1) (by have := W3.out; omega) 0 (.int .i64 n)) (b := w.heap.size + 1 + 1) (by have := W3.out; omega) 1 (.int .i64 l)) (b := w.heap.size + 1 + 1) (by have := W3.out; omega) 2 (.slice (some ⟨gg, 0, none⟩) NN cap))
      have KX8 := Lib.hid (blk_off (blk_off (blk_off KX7 (b := w.heap.size + 1 + 1) (by have := W3.out; omega) 0 (.int .i64 n)) (b := w.heap.size + 1 + 1) (by have := W3.out; omega) 1 (.int .i64 l)) (b := w.heap.size + 1 + 1) (by have := W3.out; omega) 2 (.slice (some ⟨gg, 0, none⟩) NN cap))
      obtain ⟨t0, t1, t2, t3, t4⟩ := two_facts KR8 (.int .i64 ((k : Int) + 1)) (.int .i64 ((g : Int) + 1))
      have KA9 := Lib.hid (blk_off (blk_off KA8.out (b := w.heap.size + 1 + 1 + 1) (by have := W3.out; omega) 0 (.int .i64 ((k : Int) + 1))) (b := w.heap.size + 1 + 1 + 1) (by have := W3.out; omega) 1 (.int .i64 ((g : Int) + 1)))
      have KX9 := Lib.hid (blk_off (blk_off KX8.out (b := w.heap.size + 1 + 1 + 1) (by have := W3.out; omega) 0 (.int .i64 ((k : Int) + 1))) (b := w.heap.size + 1 + 1 + 1) (by have := W3.out; omega) 1 (.int .i64 ((g : Int) + 1)))
      have S7 := Lib.hid (blk_off (blk_off s6 (b := w.heap.size + 1 + 1 + 1) (by have := W3.out; omega) 0 (.int .i64 ((k : Int) + 1))) (b := w.heap.size + 1 + 1 + 1) (by have := W3.out; omega) 1 (.int .i64 ((g : Int) + 1)))
      have T4 := Lib.hid t4
      have E7 := Lib.hid hw7
      clear s6 t4 KA7 KX7 KZ7 KR7 KR8 hw7
      go_wp2_with fail
      refine AnyBut.region (fun w' => w'.cell? ⟨w.heap.size, 0, none⟩ = some (.int .i64 n) ∧ w'.cell? ⟨w.heap.size, 1, none⟩ = some (.int .i64 l) ∧ w'.cell? ⟨w.heap.size, 2, none⟩ = some (.slice (some ⟨gg, 0, none⟩) NN cap) ∧ w'.cell? ⟨w3.heap.size, 0, none⟩ = some (.int .i64 ((k : Int) + 1)) ∧ w'.cell? ⟨w3.heap.size, 1, none⟩ = some (.int .i64 ((g : Int) + 1))) 4 (by kernel_rfl) ?_
      rw [← E7.out]
      refine tkB (i := 0) (oi := ⟨some 46, _, _, _, _, none⟩) (v := ?vx0) rfl (Or.inl ⟨by rfl, ?hyx0⟩) ⟨d0, d1, d2, x0, x1⟩ ?restx0
      case hyx0 => (intro w hSw; go_simp; try (with_reducible rfl))
      simp only [Act.put, sT, sZ, sS]
      refine tkB (i := 1) (oi := ⟨some 47, _, _, _, _, none⟩) (v := ?vx1) rfl (Or.inl ⟨by rfl, ?hyx1⟩) ⟨d0, d1, d2, x0, x1⟩ ?restx1
      case hyx1 => (intro w hSw; go_simp; try (with_reducible rfl))
      simp only [Act.put, sT, sZ, sS]
      clear d0 d1 d2 x0 x1
      refine AnyBut.one (i := 2) (o := ⟨none, _, _, _, _, none⟩) (by kernel_rfl) rfl (fun K hK => ?_)
      go_simp
      refine hK.out _ _ (fun _ => ⟨blk_cell KA8.out 0, blk_cell KA8.out 1, blk_cell KA8.out 2, blk_cell KX8.out 0, blk_cell KX8.out 1⟩) ?_
      clear hK K
      try simp only [Act.put, sT, sZ, sS]
      refine AnyBut.one (i := 3) (o := ⟨none, _, _, _, _, none⟩) (by kernel_rfl) rfl (fun K hK => ?_)
      go_simp
      refine hK.out _ _ (fun _ => ⟨blk_cell KA9.out 0, blk_cell KA9.out 1, blk_cell KA9.out 2, blk_cell KX9.out 0, blk_cell KX9.out 1⟩) ?_
      clear hK K
      try simp only [Act.put, sT, sZ, sS]
      refine AnyBut.one (i := 4) (o := ⟨some 6, _, _, _, _, none⟩) (by kernel_rfl) rfl (fun K hK => ?_)
      go_simp
      refine hK.out _ _ (fun h => absurd rfl h) ?_
      clear hK K s0 s1 s2 s3 s4 s5 t0 t1 t2 t3
      try simp only [Act.put, sT, sZ, sS]
      refine AnyBut.done (by kernel_rfl) ?_ _
      go_wp2
      refine rf_alloc_end (blk_range (cs := arCells n l (.slice (some ⟨gg, 0, none⟩) NN cap)) S7.out) (blk_range (cs := [.int .i64 ((k : Int) + 1), .int .i64 ((g : Int) + 1)]) T4.out) rfl rfl rfl rfl (by kernel_rfl) (by kernel_rfl) ?_
      have BE := Lib.hid (below_set (below_set (below_set (below_set (below_set B7.out (b := w.heap.size + 1 + 1) (by omega) 0 (.int .i64 n)) (b := w.heap.size + 1 + 1) (by omega) 1 (.int .i64 l)) (b := w.heap.size + 1 + 1) (by omega) 2 (.slice (some ⟨gg, 0, none⟩) NN cap)) (b := w.heap.size + 1 + 1 + 1) (by omega) 0 (.int .i64 ((k : Int) + 1))) (b := w.heap.size + 1 + 1 + 1) (by omega) 1 (.int .i64 ((g : Int) + 1)))
      have k2 := (((Kept.refl (fun j => j = w.heap.size + 1 + 1) w7).setCell 0 (.int .i64 n)).setCell 1 (.int .i64 l)).setCell 2 (.slice (some ⟨gg, 0, none⟩) NN cap)
      have k3 := ((Kept.refl (fun j => j = w.heap.size + 1 + 1 + 1) (((w7.setCell ⟨w.heap.size + 1 + 1, 0, none⟩ (.int .i64 n)).setCell ⟨w.heap.size + 1 + 1, 1, none⟩ (.int .i64 l)).setCell ⟨w.heap.size + 1 + 1, 2, none⟩ (.slice (some ⟨gg, 0, none⟩) NN cap))).setCell 0 (.int .i64 ((k : Int) + 1))).setCell 1 (.int .i64 ((g : Int) + 1))
      have k4 := Kept.trans2 (U := fun j => j < w0.heap.size) (Kept.trans2 (U := fun j => j < w0.heap.size) KK.out k2 (fun x h => h) (fun x h => by have := W0.out; omega)) k3 (fun x h => h) (fun x h => by have := W0.out; omega)
      refine ⟨(.slice (some ⟨gg, 0, none⟩) NN cap), us ++ [(⟨k + 1, g + 1, sc, ra, rc, ea, ec, rows, ents, true⟩ : PuD)], by rw [T.out]; rfl, ⟨(O3.out.kept k4 (O3.out.out fun _ h => h)).sv, fun e he => ?_⟩, by rw [List.map_append, P.out]; unfold putM; rw [T.out]; rfl, by rw [List.length_append, LN.out]; exact Nat.le_refl _, ⟨.inl ((O3.out.kept k4 (O3.out.out fun _ h => h)).mono (b' := w.heap.size) (by have := W0.out; omega)), fun e he => ?_⟩, BE.out⟩
      ·rcases List.mem_append.1 he with he | he
       ·exact ⟨(V0.out.2 e he).1.below BE.out, (V0.out.2 e he).2.below BE.out⟩
       ·rw [List.mem_singleton] at he
        subst he
        exact ⟨by have h := R0.out.below BE.out; rw [← LR.out] at h; exact h, by have h := E0.out.below BE.out; rw [← LE.out] at h; exact h⟩
      ·rcases List.mem_append.1 he with he | he
       ·exact .inl ⟨e, he, Heir.refl e⟩
       ·rw [List.mem_singleton] at he
        subst he
        refine .inr ⟨?_, rfl, rfl⟩
        unfold PuD.rv PuD.en
        simp only [LR.out, LE.out]
     ·have Y0 := Lib.hid (BX.out.trans (P3.out.1.mono BX.out.size))
      have W3 := Lib.hid (show w.heap.size + 4 ≤ w3.heap.size from Nat.le_trans ZW.out B3.out.size)
      have W0 := Lib.hid (show w.heap.size + 4 ≤ w0.heap.size from Nat.le_trans ZW.out BX.out.size)
      obtain ⟨w7, hw7⟩ : ∃ w7, w7 = (w5.setCell ⟨w.heap.size, 2, none⟩ (.slice (some ⟨gg, 0, none⟩) NN cap)).drew := ⟨_, rfl⟩
      have KA7 : w7.heap[w.heap.size]? = some (.cells #[.int .i64 n, .int .i64 l, (.slice (some ⟨gg, 0, none⟩) NN cap)] 35 (0, 0)) := by rw [hw7]; exact KA6.out
      have KX7 : w7.heap[w3.heap.size]? = some (.cells #[.int .i64 ((k : Int) + 1), .int .i64 ((g : Int) + 1)] 48 (0, 0)) := by rw [hw7]; exact blk_off (blk_step KX0.out P3.out.1) (b := w.heap.size) (by have := W3.out; omega) 2 (.slice (some ⟨gg, 0, none⟩) NN cap)
      have KZ7 : w7.heap[w.heap.size + 1 + 1]? = some (.cells #[.int .i64 0, .int .i64 0, .slice none 0 0] 35 (0, 0)) := by rw [hw7]; exact blk_off (blk_step KZ.out Y0.out) (b := w.heap.size) (by omega) 2 (.slice (some ⟨gg, 0, none⟩) NN cap)
      have KR7 : w7.heap[w.heap.size + 1 + 1 + 1]? = some (.cells #[.int .i64 0, .int .i64 0] 48 (0, 0)) := by rw [hw7]; exact blk_off (blk_step KX.out Y0.out) (b := w.heap.size) (by omega) 2 (.slice (some ⟨gg, 0, none⟩) NN cap)
      have B7 := Lib.hid (show Below w.heap.size w w7 by rw [hw7]; exact (below_set (B0.out.trans (Y0.out.mono B0.out.size)) (b := w.heap.size) (Nat.le_refl _) 2 (.slice (some ⟨gg, 0, none⟩) NN cap)).drew)
      have KK := Lib.hid (show Kept (fun j => j < w0.heap.size) w5 w7 by rw [hw7]; exact (((Kept.refl (fun j => j = w.heap.size) w5).setCell 2 (.slice (some ⟨gg, 0, none⟩) NN cap)).wide (fun j _ h => by have := W0.out; omega)).drew)
      have d0 := blk_cell KA7 0
      have d1 := blk_cell KA7 1
      have d2 := blk_cell KA7 2
      have x0 := blk_cell KX7 0
      have x1 := blk_cell KX7 1
      simp only [List.getElem?_toArray, List.getElem?_cons_zero, List.getElem?_cons_succ] at d0 d1 d2 x0 x1
      obtain ⟨s0, s1, s2, s3, s4, s5, s6⟩ := three_facts KZ7 (.int .i64 n) (.int .i64 l) (.slice (some ⟨gg, 0, none⟩) NN cap)
      have KR8 := blk_off (blk_off (blk_off KR7 (b := w.heap.size + 1 + 1) (by have := W3.out; omega) 0 (.int .i64 n)) (b := w.heap.size + 1 + 1) (by have := W3.out; omega) 1 (.int .i64 l)) (b := w.heap.size + 1 + 1) (by have := W3.out; omega) 2 (.slice (some ⟨gg, 0, none⟩) NN cap)
      have KA8 := Lib.hid (blk_off (blk_off (blk_off KA7 (b := w.heap.size + 1 + 1) (by have := W3.out; omega) 0 (.int .i64 n)) (b := w.heap.size + 1 + 1) (by have := W3.out; omega) 1 (.int .i64 l)) (b := w.heap.size + 1 + 1) (by have := W3.out; omega) 2 (.slice (some ⟨gg, 0, none⟩) NN cap))
      have KX8 := Lib.hid (blk_off (blk_off (blk_off KX7 (b := w.heap.size + 1 + 1) (by have := W3.out; omega) 0 (.int .i64 n)) (b := w.heap.size + 1 + 1) (by have := W3.out; omega) 1 (.int .i64 l)) (b := w.heap.size + 1 + 1) (by have := W3.out; omega) 2 (.slice (some ⟨gg, 0, none⟩) NN cap))
      obtain ⟨t0, t1, t2, t3, t4⟩ := two_facts KR8 (.int .i64 ((k : Int) + 1)) (.int .i64 ((g : Int) + 1))
      have KA9 := Lib.hid (blk_off (blk_off KA8.out (b := w.heap.size + 1 + 1 + 1) (by have := W3.out; omega) 0 (.int .i64 ((k : Int) + 1))) (b := w.heap.size + 1 + 1 + 1) (by have := W3.out; omega) 1 (.int .i64 ((g : Int) + 1)))
      have KX9 := Lib.hid (blk_off (blk_off KX8.out (b := w.heap.size + 1 + 1 + 1) (by have := W3.out; omega) 0 (.int .i64 ((k : Int) + 1))) (b := w.heap.size + 1 + 1 + 1) (by have := W3.out; omega) 1 (.int .i64 ((g : Int) + 1)))
      have S7 := Lib.hid (blk_off (blk_off s6 (b := w.heap.size + 1 + 1 + 1) (by have := W3.out; omega) 0 (.int .i64 ((k : Int) + 1))) (b := w.heap.size + 1 + 1 + 1) (by have := W3.out; omega) 1 (.int .i64 ((g : Int) + 1)))
      have T4 := Lib.hid t4
      have E7 := Lib.hid hw7
      clear s6 t4 KA7 KX7 KZ7 KR7 KR8 hw7
      go_wp2_with fail
      refine AnyBut.region (fun w' => w'.cell? ⟨w.heap.size, 0, none⟩ = some (.int .i64 n) ∧ w'.cell? ⟨w.heap.size, 1, none⟩ = some (.int .i64 l) ∧ w'.cell? ⟨w.heap.size, 2, none⟩ = some (.slice (some ⟨gg, 0, none⟩) NN cap) ∧ w'.cell? ⟨w3.heap.size, 0, none⟩ = some (.int .i64 ((k : Int) + 1)) ∧ w'.cell? ⟨w3.heap.size, 1, none⟩ = some (.int .i64 ((g : Int) + 1))) 4 (by kernel_rfl) ?_
      rw [← E7.out]
      refine tkB (i := 0) (oi := ⟨some 46, _, _, _, _, none⟩) (v := ?vy0) rfl (Or.inl ⟨by rfl, ?hyy0⟩) ⟨d0, d1, d2, x0, x1⟩ ?resty0
      case hyy0 => (intro w hSw; go_simp; try (with_reducible rfl))
      simp only [Act.put, sT, sZ, sS]
      refine tkB (i := 1) (oi := ⟨some 47, _, _, _, _, none⟩) (v := ?vy1) rfl (Or.inl ⟨by rfl, ?hyy1⟩) ⟨d0, d1, d2, x0, x1⟩ ?resty1
      case hyy1 => (intro w hSw; go_simp; try (with_reducible rfl))
      simp only [Act.put, sT, sZ, sS]
      clear d0 d1 d2 x0 x1
      refine AnyBut.one (i := 2) (o := ⟨none, _, _, _, _, none⟩) (by kernel_rfl) rfl (fun K hK => ?_)
      go_simp
      refine hK.out _ _ (fun _ => ⟨blk_cell KA8.out 0, blk_cell KA8.out 1, blk_cell KA8.out 2, blk_cell KX8.out 0, blk_cell KX8.out 1⟩) ?_
      clear hK K
      try simp only [Act.put, sT, sZ, sS]
      refine AnyBut.one (i := 3) (o := ⟨none, _, _, _, _, none⟩) (by kernel_rfl) rfl (fun K hK => ?_)
      go_simp
      refine hK.out _ _ (fun _ => ⟨blk_cell KA9.out 0, blk_cell KA9.out 1, blk_cell KA9.out 2, blk_cell KX9.out 0, blk_cell KX9.out 1⟩) ?_
      clear hK K
      try simp only [Act.put, sT, sZ, sS]
      refine AnyBut.one (i := 4) (o := ⟨some 6, _, _, _, _, none⟩) (by kernel_rfl) rfl (fun K hK => ?_)
      go_simp
      refine hK.out _ _ (fun h => absurd rfl h) ?_
      clear hK K s0 s1 s2 s3 s4 s5 t0 t1 t2 t3
      try simp only [Act.put, sT, sZ, sS]
      refine AnyBut.done (by kernel_rfl) ?_ _
      go_wp2
      refine rf_alloc_end (blk_range (cs := arCells n l (.slice (some ⟨gg, 0, none⟩) NN cap)) S7.out) (blk_range (cs := [.int .i64 ((k : Int) + 1), .int .i64 ((g : Int) + 1)]) T4.out) rfl rfl rfl rfl (by kernel_rfl) (by kernel_rfl) ?_
      have BE := Lib.hid (below_set (below_set (below_set (below_set (below_set B7.out (b := w.heap.size + 1 + 1) (by omega) 0 (.int .i64 n)) (b := w.heap.size + 1 + 1) (by omega) 1 (.int .i64 l)) (b := w.heap.size + 1 + 1) (by omega) 2 (.slice (some ⟨gg, 0, none⟩) NN cap)) (b := w.heap.size + 1 + 1 + 1) (by omega) 0 (.int .i64 ((k : Int) + 1))) (b := w.heap.size + 1 + 1 + 1) (by omega) 1 (.int .i64 ((g : Int) + 1)))
      have k2 := (((Kept.refl (fun j => j = w.heap.size + 1 + 1) w7).setCell 0 (.int .i64 n)).setCell 1 (.int .i64 l)).setCell 2 (.slice (some ⟨gg, 0, none⟩) NN cap)
      have k3 := ((Kept.refl (fun j => j = w.heap.size + 1 + 1 + 1) (((w7.setCell ⟨w.heap.size + 1 + 1, 0, none⟩ (.int .i64 n)).setCell ⟨w.heap.size + 1 + 1, 1, none⟩ (.int .i64 l)).setCell ⟨w.heap.size + 1 + 1, 2, none⟩ (.slice (some ⟨gg, 0, none⟩) NN cap))).setCell 0 (.int .i64 ((k : Int) + 1))).setCell 1 (.int .i64 ((g : Int) + 1))
      have k4 := Kept.trans2 (U := fun j => j < w0.heap.size) (Kept.trans2 (U := fun j => j < w0.heap.size) KK.out k2 (fun x h => h) (fun x h => by have := W0.out; omega)) k3 (fun x h => h) (fun x h => by have := W0.out; omega)
      refine ⟨(.slice (some ⟨gg, 0, none⟩) NN cap), us ++ [(⟨k + 1, g + 1, sc, ra, rc, ea, ec, rows, ents, true⟩ : PuD)], by rw [T.out]; rfl, ⟨(O3.out.kept k4 (O3.out.out fun _ h => h)).sv, fun e he => ?_⟩, by rw [List.map_append, P.out]; unfold putM; rw [T.out]; rfl, by rw [List.length_append, LN.out]; exact Nat.le_refl _, ⟨.inl ((O3.out.kept k4 (O3.out.out fun _ h => h)).mono (b' := w.heap.size) (by have := W0.out; omega)), fun e he => ?_⟩, BE.out⟩
      ·rcases List.mem_append.1 he with he | he
       ·exact ⟨(V0.out.2 e he).1.below BE.out, (V0.out.2 e he).2.below BE.out⟩
       ·rw [List.mem_singleton] at he
        subst he
        exact ⟨by have h := R0.out.below BE.out; rw [← LR.out] at h; exact h, by have h := E0.out.below BE.out; rw [← LE.out] at h; exact h⟩
      ·rcases List.mem_append.1 he with he | he
       ·exact .inl ⟨e, he, Heir.refl e⟩
       ·rw [List.mem_singleton] at he
        subst he
        refine .inr ⟨?_, rfl, rfl⟩
        unfold PuD.rv PuD.en
        simp only [LR.out, LE.out]
     ·have Y0 := Lib.hid (BX.out.trans (P3.out.1.mono BX.out.size))
      have W3 := Lib.hid (show w.heap.size + 4 ≤ w3.heap.size from Nat.le_trans ZW.out B3.out.size)
      have W0 := Lib.hid (show w.heap.size + 4 ≤ w0.heap.size from Nat.le_trans ZW.out BX.out.size)
      obtain ⟨w7, hw7⟩ : ∃ w7, w7 = (w5.setCell ⟨w.heap.size, 2, none⟩ (.slice (some ⟨gg, 0, none⟩) NN cap)).drew := ⟨_, rfl⟩
      have KA7 : w7.heap[w.heap.size]? = some (.cells #[.int .i64 n, .int .i64 l, (.slice (some ⟨gg, 0, none⟩) NN cap)] 35 (0, 0)) := by rw [hw7]; exact KA6.out
      have KX7 : w7.heap[w3.heap.size]? = some (.cells #[.int .i64 ((k : Int) + 1), .int .i64 ((g : Int) + 1)] 48 (0, 0)) := by rw [hw7]; exact blk_off (blk_step KX0.out P3.out.1) (b := w.heap.size) (by have := W3.out; omega) 2 (.slice (some ⟨gg, 0, none⟩) NN cap)
      have KZ7 : w7.heap[w.heap.size + 1 + 1]? = some (.cells #[.int .i64 0, .int .i64 0, .slice none 0 0] 35 (0, 0)) := by rw [hw7]; exact blk_off (blk_step KZ.out Y0.out) (b := w.heap.size) (by omega) 2 (.slice (some ⟨gg, 0, none⟩) NN cap)
      have KR7 : w7.heap[w.heap.size + 1 + 1 + 1]? = some (.cells #[.int .i64 0, .int .i64 0] 48 (0, 0)) := by rw [hw7]; exact blk_off (blk_step KX.out Y0.out) (b := w.heap.size) (by omega) 2 (.slice (some ⟨gg, 0, none⟩) NN cap)
      have B7 := Lib.hid (show Below w.heap.size w w7 by rw [hw7]; exact (below_set (B0.out.trans (Y0.out.mono B0.out.size)) (b := w.heap.size) (Nat.le_refl _) 2 (.slice (some ⟨gg, 0, none⟩) NN cap)).drew)
      have KK := Lib.hid (show Kept (fun j => j < w0.heap.size) w5 w7 by rw [hw7]; exact (((Kept.refl (fun j => j = w.heap.size) w5).setCell 2 (.slice (some ⟨gg, 0, none⟩) NN cap)).wide (fun j _ h => by have := W0.out; omega)).drew)
      have d0 := blk_cell KA7 0
      have d1 := blk_cell KA7 1
      have d2 := blk_cell KA7 2
      have x0 := blk_cell KX7 0
      have x1 := blk_cell KX7 1
      simp only [List.getElem?_toArray, List.getElem?_cons_zero, List.getElem?_cons_succ] at d0 d1 d2 x0 x1
      obtain ⟨s0, s1, s2, s3, s4, s5, s6⟩ := three_facts KZ7 (.int .i64 n) (.int .i64 l) (.slice (some ⟨gg, 0, none⟩) NN cap)
      have KR8 := blk_off (blk_off (blk_off KR7 (b := w.heap.size + 1 + 1) (by have := W3.out; omega) 0 (.int .i64 n)) (b := w.heap.size + 1 + 1) (by have := W3.out; omega) 1 (.int .i64 l)) (b := w.heap.size + 1 + 1) (by have := W3.out; omega) 2 (.slice (some ⟨gg, 0, none⟩) NN cap)
      have KA8 := Lib.hid (blk_off (blk_off (blk_off KA7 (b := w.heap.size + 1 + 1) (by have := W3.out; omega) 0 (.int .i64 n)) (b := w.heap.size + 1 + 1) (by have := W3.out; omega) 1 (.int .i64 l)) (b := w.heap.size + 1 + 1) (by have := W3.out; omega) 2 (.slice (some ⟨gg, 0, none⟩) NN cap))
      have KX8 := Lib.hid (blk_off (blk_off (blk_off KX7 (b := w.heap.size + 1 + 1) (by have := W3.out; omega) 0 (.int .i64 n)) (b := w.heap.size + 1 + 1) (by have := W3.out; omega) 1 (.int .i64 l)) (b := w.heap.size + 1 + 1) (by have := W3.out; omega) 2 (.slice (some ⟨gg, 0, none⟩) NN cap))
      obtain ⟨t0, t1, t2, t3, t4⟩ := two_facts KR8 (.int .i64 ((k : Int) + 1)) (.int .i64 ((g : Int) + 1))
      have KA9 := Lib.hid (blk_off (blk_off KA8.out (b := w.heap.size + 1 + 1 + 1) (by have := W3.out; omega) 0 (.int .i64 ((k : Int) + 1))) (b := w.heap.size + 1 + 1 + 1) (by have := W3.out; omega) 1 (.int .i64 ((g : Int) + 1)))
      have KX9 := Lib.hid (blk_off (blk_off KX8.out (b := w.heap.size + 1 + 1 + 1) (by have := W3.out; omega) 0 (.int .i64 ((k : Int) + 1))) (b := w.heap.size + 1 + 1 + 1) (by have := W3.out; omega) 1 (.int .i64 ((g : Int) + 1)))
      have S7 := Lib.hid (blk_off (blk_off s6 (b := w.heap.size + 1 + 1 + 1) (by have := W3.out; omega) 0 (.int .i64 ((k : Int) + 1))) (b := w.heap.size + 1 + 1 + 1) (by have := W3.out; omega) 1 (.int .i64 ((g : Int) + 1)))
      have T4 := Lib.hid t4
      have E7 := Lib.hid hw7
      clear s6 t4 KA7 KX7 KZ7 KR7 KR8 hw7
      go_wp2_with fail
      refine AnyBut.region (fun w' => w'.cell? ⟨w.heap.size, 0, none⟩ = some (.int .i64 n) ∧ w'.cell? ⟨w.heap.size, 1, none⟩ = some (.int .i64 l) ∧ w'.cell? ⟨w.heap.size, 2, none⟩ = some (.slice (some ⟨gg, 0, none⟩) NN cap) ∧ w'.cell? ⟨w3.heap.size, 0, none⟩ = some (.int .i64 ((k : Int) + 1)) ∧ w'.cell? ⟨w3.heap.size, 1, none⟩ = some (.int .i64 ((g : Int) + 1))) 4 (by kernel_rfl) ?_
      rw [← E7.out]
      refine tkB (i := 0) (oi := ⟨some 46, _, _, _, _, none⟩) (v := ?vz0) rfl (Or.inl ⟨by rfl, ?hyz0⟩) ⟨d0, d1, d2, x0, x1⟩ ?restz0
      case hyz0 => (intro w hSw; go_simp; try (with_reducible rfl))
      simp only [Act.put, sT, sZ, sS]
      refine tkB (i := 1) (oi := ⟨some 47, _, _, _, _, none⟩) (v := ?vz1) rfl (Or.inl ⟨by rfl, ?hyz1⟩) ⟨d0, d1, d2, x0, x1⟩ ?restz1
      case hyz1 => (intro w hSw; go_simp; try (with_reducible rfl))
      simp only [Act.put, sT, sZ, sS]
      clear d0 d1 d2 x0 x1
      refine AnyBut.one (i := 2) (o := ⟨none, _, _, _, _, none⟩) (by kernel_rfl) rfl (fun K hK => ?_)
      go_simp
      refine hK.out _ _ (fun _ => ⟨blk_cell KA8.out 0, blk_cell KA8.out 1, blk_cell KA8.out 2, blk_cell KX8.out 0, blk_cell KX8.out 1⟩) ?_
      clear hK K
      try simp only [Act.put, sT, sZ, sS]
      refine AnyBut.one (i := 3) (o := ⟨none, _, _, _, _, none⟩) (by kernel_rfl) rfl (fun K hK => ?_)
      go_simp
      refine hK.out _ _ (fun _ => ⟨blk_cell KA9.out 0, blk_cell KA9.out 1, blk_cell KA9.out 2, blk_cell KX9.out 0, blk_cell KX9.out 1⟩) ?_
      clear hK K
      try simp only [Act.put, sT, sZ, sS]
      refine AnyBut.one (i := 4) (o := ⟨some 6, _, _, _, _, none⟩) (by kernel_rfl) rfl (fun K hK => ?_)
      go_simp
      refine hK.out _ _ (fun h => absurd rfl h) ?_
      clear hK K s0 s1 s2 s3 s4 s5 t0 t1 t2 t3
      try simp only [Act.put, sT, sZ, sS]
      refine AnyBut.done (by kernel_rfl) ?_ _
      go_wp2
      refine rf_alloc_end (blk_range (cs := arCells n l (.slice (some ⟨gg, 0, none⟩) NN cap)) S7.out) (blk_range (cs := [.int .i64 ((k : Int) + 1), .int .i64 ((g : Int) + 1)]) T4.out) rfl rfl rfl rfl (by kernel_rfl) (by kernel_rfl) ?_
      have BE := Lib.hid (below_set (below_set (below_set (below_set (below_set B7.out (b := w.heap.size + 1 + 1) (by omega) 0 (.int .i64 n)) (b := w.heap.size + 1 + 1) (by omega) 1 (.int .i64 l)) (b := w.heap.size + 1 + 1) (by omega) 2 (.slice (some ⟨gg, 0, none⟩) NN cap)) (b := w.heap.size + 1 + 1 + 1) (by omega) 0 (.int .i64 ((k : Int) + 1))) (b := w.heap.size + 1 + 1 + 1) (by omega) 1 (.int .i64 ((g : Int) + 1)))
      have k2 := (((Kept.refl (fun j => j = w.heap.size + 1 + 1) w7).setCell 0 (.int .i64 n)).setCell 1 (.int .i64 l)).setCell 2 (.slice (some ⟨gg, 0, none⟩) NN cap)
      have k3 := ((Kept.refl (fun j => j = w.heap.size + 1 + 1 + 1) (((w7.setCell ⟨w.heap.size + 1 + 1, 0, none⟩ (.int .i64 n)).setCell ⟨w.heap.size + 1 + 1, 1, none⟩ (.int .i64 l)).setCell ⟨w.heap.size + 1 + 1, 2, none⟩ (.slice (some ⟨gg, 0, none⟩) NN cap))).setCell 0 (.int .i64 ((k : Int) + 1))).setCell 1 (.int .i64 ((g : Int) + 1))
      have k4 := Kept.trans2 (U := fun j => j < w0.heap.size) (Kept.trans2 (U := fun j => j < w0.heap.size) KK.out k2 (fun x h => h) (fun x h => by have := W0.out; omega)) k3 (fun x h => h) (fun x h => by have := W0.out; omega)
      refine ⟨(.slice (some ⟨gg, 0, none⟩) NN cap), us ++ [(⟨k + 1, g + 1, sc, ra, rc, ea, ec, rows, ents, true⟩ : PuD)], by rw [T.out]; rfl, ⟨(O3.out.kept k4 (O3.out.out fun _ h => h)).sv, fun e he => ?_⟩, by rw [List.map_append, P.out]; unfold putM; rw [T.out]; rfl, by rw [List.length_append, LN.out]; exact Nat.le_refl _, ⟨.inl ((O3.out.kept k4 (O3.out.out fun _ h => h)).mono (b' := w.heap.size) (by have := W0.out; omega)), fun e he => ?_⟩, BE.out⟩
      ·rcases List.mem_append.1 he with he | he
       ·exact ⟨(V0.out.2 e he).1.below BE.out, (V0.out.2 e he).2.below BE.out⟩
       ·rw [List.mem_singleton] at he
        subst he
        exact ⟨by have h := R0.out.below BE.out; rw [← LR.out] at h; exact h, by have h := E0.out.below BE.out; rw [← LE.out] at h; exact h⟩
      ·rcases List.mem_append.1 he with he | he
       ·exact .inl ⟨e, he, Heir.refl e⟩
       ·rw [List.mem_singleton] at he
        subst he
        refine .inr ⟨?_, rfl, rfl⟩
        unfold PuD.rv PuD.en
        simp only [LR.out, LE.out]
    ·have T := Lib.hid (show allocM n l ps = allocGo l ps (n - (k + 1)) (k + 1 + 1) 5 by rw [A.out.2.1, hnk.out]; exact slot_worn hst hg)
     obtain ⟨g, hgg⟩ : ∃ g, (slotOf ps (k + 1)).1 = g := ⟨_, rfl⟩
     rw [hgg] at hg ⊢
     have e1 : ¬ (g : Int) < (l : Int) := by omega
     clear hst hgg
     go_wp2
     go_roundg (n - (k + 1))
     case measure => have := A.out.2.2.2; omega
     case rel => exact ⟨k + 1, 5, by omega, by go_num, rfl, .inr rfl, T.out, B3.out⟩
  ·have T := Lib.hid (show allocM n l ps = (0, 0, e) by rw [A.out.2.1, show n - k = 0 by omega]; rfl)
   have j1 : ¬ ((k + 1 : Nat) : Int) ≤ (n : Int) := by omega
   have F := Lib.hid (show putM n l ps ⟨sc, rows, ents⟩ = ps from putM_no (by rw [T.out]; rcases A.out.1 with h | h <;> rw [h] <;> decide))
   have KZ1 := Lib.hid (blk_step KZ.out A.out.2.2.1)
   have KX1 := Lib.hid (blk_step KX.out A.out.2.2.1)
   have BW := Lib.hid (B0.out.trans (A.out.2.2.1.mono B0.out.size))
   obtain ⟨s0, s1, s2, s3, s4, s5, s6⟩ := three_facts KZ1.out (.int .i64 n) (.int .i64 l) (.slice va N vc)
   have KX2 := Lib.hid (blk_off (blk_off (blk_off KX1.out (b := w.heap.size + 1 + 1) (by omega) 0 (.int .i64 n)) (b := w.heap.size + 1 + 1) (by omega) 1 (.int .i64 l)) (b := w.heap.size + 1 + 1) (by omega) 2 (.slice va N vc))
   obtain ⟨t0, t1, t2, t3, t4⟩ := two_facts KX2.out (.int .i64 0) (.int .i64 0)
   have S6 := Lib.hid s6
   have T4 := Lib.hid t4
   clear s6 t4
   go_wp2
   have BE := Lib.hid (below_set (below_set (below_set (below_set (below_set BW.out (b := w.heap.size + 1 + 1) (by omega) 0 (.int .i64 n)) (b := w.heap.size + 1 + 1) (by omega) 1 (.int .i64 l)) (b := w.heap.size + 1 + 1) (by omega) 2 (.slice va N vc)) (b := w.heap.size + 1 + 1 + 1) (by omega) 0 (.int .i64 0)) (b := w.heap.size + 1 + 1 + 1) (by omega) 1 (.int .i64 0))
   have S7 := Lib.hid (blk_off (blk_off S6.out (b := w.heap.size + 1 + 1 + 1) (by omega) 0 (.int .i64 0)) (b := w.heap.size + 1 + 1 + 1) (by omega) 1 (.int .i64 0))
   refine rf_alloc_end (blk_range (cs := arCells n l (.slice va N vc)) S7.out) (blk_range (cs := [.int .i64 0, .int .i64 0]) T4.out) rfl rfl rfl rfl (by kernel_rfl) (by kernel_rfl) ?_
   exact ⟨_, by rw [T.out]; rfl, us, V0.out.below BE.out, by rw [P.out, F.out], by rw [LN.out]; exact Nat.le_succ _, ⟨.inr ⟨rfl, rfl⟩, fun e he => .inl ⟨e, he, Heir.refl e⟩⟩, BE.out⟩
open Go.RowKit
theorem OwnS.offT {α : Type} {E : Lay α} {b : Nat} {w : World} {v : Value} {xs : List α} (h : OwnS E b w v xs) {g : Nat} {cs : Array Value} {T : TypeId} (hb : w.heap[g]? = some (.cells cs T (0, 0))) (hne : E.ty ≠ T) : Out (fun x => x = g) v := fun a m d hv hs => by
 obtain ⟨_, h⟩ := h
 rcases h with ⟨rfl, -⟩ | ⟨q, cap, cur, rfl, -, hg, -⟩
 ·cases hv
 ·obtain ⟨e, -, -⟩ := Value.slice.inj hv
  obtain rfl := Option.some.inj e
  obtain rfl : q = g := hs
  have h1 := Option.some.inj (hg.symm.trans hb)
  exact hne (Obj.cells.inj h1).2.1
theorem blk_thereAt {w : World} {b : Nat} {cs : Array Value} {T : TypeId} (h : w.heap[b]? = some (.cells cs T (0, 0))) (o n : Nat) (hn : o + n ≤ cs.size) : w.there b o n := fun j hj => by
 refine ⟨?_, blk_free h _⟩
 rw [blk_cell h, Array.getElem?_eq_getElem (by omega)]
 rfl
theorem blk_set2 {w : World} {b : Nat} {cs : Array Value} {T : TypeId} (h : w.heap[b]? = some (.cells cs T (0, 0))) (o : Nat) (x y : Value) : (w.setCells b o ([x, y] : List Value).toArray.toList).heap[b]? = some (.cells ((cs.setIfInBounds o x).setIfInBounds (o + 1) y) T (0, 0)) := blk_set (blk_set h o x) (o + 1) y
theorem blk_set3 {w : World} {b : Nat} {cs : Array Value} {T : TypeId} (h : w.heap[b]? = some (.cells cs T (0, 0))) (o : Nat) (x y z : Value) : (w.setCells b o ([x, y, z] : List Value).toArray.toList).heap[b]? = some (.cells (((cs.setIfInBounds o x).setIfInBounds (o + 1) y).setIfInBounds (o + 1 + 1) z) T (0, 0)) := blk_set (blk_set (blk_set h o x) (o + 1) y) (o + 1 + 1) z
def Bare (us : List PuD) : Prop := ∀ d ∈ us, d.rv = .slice none 0 0 ∧ d.en = .slice none 0 0
theorem Bare.puts {b : Nat} {w : World} {v : Value} {us : List PuD} (h : Bare us) (ho : OwnS lPut b w v us) : PutsV w v us := by
 refine ⟨ho.sv, fun d hd => ?_⟩
 obtain ⟨h1, h2⟩ := h d hd
 have e1 : d.rows = [] := by
  unfold PuD.rv at h1
  obtain ⟨-, h, -⟩ := Value.slice.inj h1
  exact List.eq_nil_of_length_eq_zero h
 have e2 : d.ents = [] := by
  unfold PuD.en at h2
  obtain ⟨-, h, -⟩ := Value.slice.inj h2
  exact List.eq_nil_of_length_eq_zero h
 rw [h1, h2, e1, e2]
 exact ⟨SV.nil _ _, SV.nil _ _⟩
theorem Bare.next {us us' : List PuD} {sc : Sc} {d : RecD} (h : Bare us) (hh : ∀ e ∈ us', (∃ e0 ∈ us, Heir e e0) ∨ (recVal sc (.slice none 0 0) (.slice none 0 0) = recVal e.sc e.rv e.en ∧ e.rows = d.rows ∧ e.ents = d.ents)) : Bare us' := fun e he => by
 rcases hh e he with ⟨e0, h0, h1⟩ | ⟨h1, -⟩
 ·rw [h1.1, h1.2.1]; exact h e0 h0
 ·unfold recVal at h1
  simp only [Value.agg.injEq, Array.mk.injEq, List.cons.injEq] at h1
  exact ⟨h1.2.2.2.2.2.1.symm, h1.2.2.2.2.2.2.1.symm⟩
theorem NewP.own {w w' : World} {v v' : Value} {us us' : List PuD} (h : NewP w w' v v' us us') (hne : us' ≠ us) : OwnS lPut w.heap.size w' v' us' := h.elim id (fun h => absurd h.2 hne)
def memR (l : LimN) (pv tv cv : Value) (c : Ck) : Value := .agg #[.int .i64 (l.s : Int), .int .i64 (l.p : Int), .int .i64 (l.t : Int), .int .i64 (l.r : Int), .int .i64 (l.h : Int), .int .i64 (l.c : Int), .int .i64 (l.s : Int), .int .i64 (l.c : Int), pv, .int .i64 (l.p : Int), tv, .int .i64 c.n, .int .i64 c.l, cv, .int .i64 0]
def mrObj (l : LimN) (x0 x1 pv y0 tv z0 z1 cv : Value) : Obj := .cells #[.int .i64 (l.s : Int), .int .i64 (l.p : Int), .int .i64 (l.t : Int), .int .i64 (l.r : Int), .int .i64 (l.h : Int), .int .i64 (l.c : Int), x0, x1, pv, y0, tv, z0, z1, cv, .int .i64 0] 43
def mrZ : Obj := .cells #[.int .i64 0, .int .i64 0, .int .i64 0, .int .i64 0, .int .i64 0, .int .i64 0, .int .i64 0, .int .i64 0, .slice none 0 0, .int .i64 0, .slice none 0 0, .int .i64 0, .int .i64 0, .slice none 0 0, .int .i64 0] 43
theorem rNew_any (l : LimN) (h : l.ok) (w : World) :
  Calls Tryz.prog 7 #[limV l.z] w fun ev w' => ∃ pv us tv ups cv, ev = .returned (memR l pv tv cv (Ck.new l.t l.c)) ∧ OwnS lPut 0 w' pv us ∧ Bare us ∧ us.map PuD.pt = psB ∧ OwnS lUp 0 w' tv ups ∧ RefOk ups (pgs1 l.p) ∧ ups.length ≤ 1 ∧ (∃ a n c, cv = Value.slice a n c) ∧ Below w.heap.size w w' := by
 have OK := Lib.hid h
 have OKN := Lib.hid (show okN (l.s : Int) (l.c : Int) = true by
  have := h.s1; have := h.s2; have := h.c1; have := h.c2
  unfold okN
  rw [decide_eq_true (show (1 : Int) ≤ l.s by omega), decide_eq_true (show (l.s : Int) ≤ 4096 by omega), decide_eq_true (show (1 : Int) ≤ l.c by omega), decide_eq_true (show (l.c : Int) ≤ 1099511627776 by omega)]; rfl)
 have OKT := Lib.hid (show Ck.may (l.t : Int) (l.c : Int) by have := h.t1; have := h.t2; have := h.c1; have := h.c2; unfold Ck.may; omega)
 obtain ⟨t1, t2, t3⟩ := take0 (p := l.p) (by have := h.p1; omega)
 obtain ⟨sw1, sw2, sw3⟩ := swap0 l.p
 have TK := Lib.hid (show _ ∧ _ ∧ _ from ⟨t1, t2, t3⟩)
 have SW := Lib.hid (show _ ∧ _ ∧ _ from ⟨sw1, sw2, sw3⟩)
 have AL := Lib.hid (show allocM l.s l.c [] = (1, 1, 0) ∧ putM l.s l.c [] baseD = psB from ⟨allocM0 (by have := h.s1; omega) (by have := h.c1; omega), putM0 (by have := h.s1; omega) (by have := h.c1; omega)⟩)
 clear t1 t2 t3 sw1 sw2 sw3 h
 have L0 := limObj l.z
 clear L0
 obtain ⟨W0, hW0⟩ : ∃ W, W = ((w.alloc (limObj l.z)).alloc mrZ).alloc (mrObj l (.int .i64 0) (.int .i64 0) (.slice none 0 0) (.int .i64 0) (.slice none 0 0) (.int .i64 0) (.int .i64 0) (.slice none 0 0)) := ⟨_, rfl⟩
 have b0 : Below w.heap.size w W0 := by rw [hW0]; exact ((alloc_below0 _ _).trans ((alloc_below0 _ _).mono (alloc_below0 w _).size)).trans ((alloc_below0 _ _).mono (by simp; omega))
 have B0 := Lib.hid b0
 have LM_0 := Lib.hid (show W0.heap[w.heap.size]? = some (limObj l.z) from by rw [hW0]; exact blk_step (blk_step (blk_new w _) (alloc_below0 _ _)) (alloc_below0 _ _))
 have R_0 := Lib.hid (show W0.heap[w.heap.size + 1]? = some mrZ from by rw [hW0, show w.heap.size + 1 = (w.alloc (limObj l.z)).heap.size by simp]; exact blk_step (blk_new _ _) (alloc_below0 _ _))
 have N_0 := Lib.hid (show W0.heap[w.heap.size + 1 + 1]? = some (mrObj l (.int .i64 0) (.int .i64 0) (.slice none 0 0) (.int .i64 0) (.slice none 0 0) (.int .i64 0) (.int .i64 0) (.slice none 0 0)) from by rw [hW0, show w.heap.size + 1 + 1 = ((w.alloc (limObj l.z)).alloc mrZ).heap.size by simp]; exact blk_new _ _)
 have Z0 := Lib.hid (show W0.heap.size = w.heap.size + 3 by rw [hW0]; simp)
 unfold limObj mrZ mrObj LimN.z at hW0
 unfold limObj LimN.z at LM_0
 clear b0
 unfold limV LimN.z
 go_enter Tryz.func7, Tryz.ntmps7
 go_wp2_with fail
 rw [← hW0]
 clear hW0
 refine (ar_rf_new l.s l.c _ OKN.out).mono ?_
 rintro ev w1 ⟨rfl, hs⟩
 have B1 := Lib.hid (B0.out.trans (hs.mono B0.out.size))
 have LM_1 := Lib.hid (blk_step LM_0.out hs)
 have R_1 := Lib.hid (blk_step R_0.out hs)
 have N_1 := Lib.hid (blk_step N_0.out hs)
 clear B0 LM_0 R_0 N_0
 clear hs
 unfold refA
 have ks : Kept (fun k => k = w.heap.size + 1 + 1) w1 (World.setCells w1 (w.heap.size + 1 + 1) 6 ([.int .i64 (l.s : Int), .int .i64 (l.c : Int), .slice none 0 0] : List Value).toArray.toList) := Kept.setCells _ 6 w1 (Kept.refl (fun k => k = w.heap.size + 1 + 1) w1)
 have B2 := Lib.hid (show Below w.heap.size w (World.setCells w1 (w.heap.size + 1 + 1) 6 ([.int .i64 (l.s : Int), .int .i64 (l.c : Int), .slice none 0 0] : List Value).toArray.toList) from below_setCells (b := w.heap.size + 1 + 1) (by first | omega | (have := S4.out; omega) | (have := S4.out; have := S5.out; omega)) _ 6 _ B1.out)
 have th := Lib.hid (blk_thereAt N_1.out 6 3 (by simp))
 have LM_2 := Lib.hid ((ks.block _ (Array.getElem?_eq_some_iff.1 LM_1.out).1 (by first | omega | (have := S4.out; omega) | (have := S4.out; have := S5.out; omega))).trans LM_1.out)
 have R_2 := Lib.hid ((ks.block _ (Array.getElem?_eq_some_iff.1 R_1.out).1 (by first | omega | (have := S4.out; omega) | (have := S4.out; have := S5.out; omega))).trans R_1.out)
 have N_2 := Lib.hid (show ((World.setCells w1 (w.heap.size + 1 + 1) 6 ([.int .i64 (l.s : Int), .int .i64 (l.c : Int), .slice none 0 0] : List Value).toArray.toList)).heap[w.heap.size + 1 + 1]? = some (mrObj l (.int .i64 (l.s : Int)) (.int .i64 (l.c : Int)) (.slice none 0 0) (.int .i64 0) (.slice none 0 0) (.int .i64 0) (.int .i64 0) (.slice none 0 0)) from blk_set3 N_1.out 6 (.int .i64 (l.s : Int)) (.int .i64 (l.c : Int)) (.slice none 0 0))
 clear ks B1 LM_1 R_1 N_1
 have l_1 := blk_cell LM_2.out 1
 simp at l_1
 go_wp2_with (refine wpList_store_mid rfl 35 (.tmp 20) (.tmp 18) rfl (w.heap.size + 1 + 1) 6 ([.int .i64 (l.s : Int), .int .i64 (l.c : Int), .slice none 0 0] : List Value).toArray rfl rfl ?_ (by kernel_rfl) ?one ?_; (case one => first | rfl | (kernel_rfl) | (exact all_oneCell_toArray (fun u h => by simp at h; rcases h with h | h | h <;> subst h <;> rfl))); exact th.out; clear th; generalize hG : World.setCells _ _ _ _ = x1 at *; clear hG)
 refine (mp_rf_new l.p _).mono ?_
 rintro ev w2 ⟨rfl, hs⟩
 clear l_1
 have B3 := Lib.hid (B2.out.trans (hs.mono B2.out.size))
 have LM_3 := Lib.hid (blk_step LM_2.out hs)
 have R_3 := Lib.hid (blk_step R_2.out hs)
 have N_3 := Lib.hid (blk_step N_2.out hs)
 clear B2 LM_2 R_2 N_2
 clear hs
 unfold refT
 have ks : Kept (fun k => k = w.heap.size + 1 + 1) w2 (World.setCells w2 (w.heap.size + 1 + 1) 9 ([.int .i64 (l.p : Int), .slice none 0 0] : List Value).toArray.toList) := Kept.setCells _ 9 w2 (Kept.refl (fun k => k = w.heap.size + 1 + 1) w2)
 have B4 := Lib.hid (show Below w.heap.size w (World.setCells w2 (w.heap.size + 1 + 1) 9 ([.int .i64 (l.p : Int), .slice none 0 0] : List Value).toArray.toList) from below_setCells (b := w.heap.size + 1 + 1) (by first | omega | (have := S4.out; omega) | (have := S4.out; have := S5.out; omega)) _ 9 _ B3.out)
 have th := Lib.hid (blk_thereAt N_3.out 9 2 (by simp))
 have LM_4 := Lib.hid ((ks.block _ (Array.getElem?_eq_some_iff.1 LM_3.out).1 (by first | omega | (have := S4.out; omega) | (have := S4.out; have := S5.out; omega))).trans LM_3.out)
 have R_4 := Lib.hid ((ks.block _ (Array.getElem?_eq_some_iff.1 R_3.out).1 (by first | omega | (have := S4.out; omega) | (have := S4.out; have := S5.out; omega))).trans R_3.out)
 have N_4 := Lib.hid (show ((World.setCells w2 (w.heap.size + 1 + 1) 9 ([.int .i64 (l.p : Int), .slice none 0 0] : List Value).toArray.toList)).heap[w.heap.size + 1 + 1]? = some (mrObj l (.int .i64 (l.s : Int)) (.int .i64 (l.c : Int)) (.slice none 0 0) (.int .i64 (l.p : Int)) (.slice none 0 0) (.int .i64 0) (.int .i64 0) (.slice none 0 0)) from blk_set2 N_3.out 9 (.int .i64 (l.p : Int)) (.slice none 0 0))
 clear ks B3 LM_3 R_3 N_3
 have l_2 := blk_cell LM_4.out 2
 have l_5 := blk_cell LM_4.out 5
 simp at l_2 l_5
 go_wp2_with (refine wpList_store_mid rfl 38 (.tmp 27) (.tmp 25) rfl (w.heap.size + 1 + 1) 9 ([.int .i64 (l.p : Int), .slice none 0 0] : List Value).toArray rfl rfl ?_ (by kernel_rfl) ?one ?_; (case one => first | rfl | (kernel_rfl) | (exact all_oneCell_toArray (fun u h => by simp at h; rcases h with h | h | h <;> subst h <;> rfl))); exact th.out; clear th; generalize hG : World.setCells _ _ _ _ = x2 at *; clear hG)
 refine (ep_rf_new l.t l.c _ OKT.out).mono ?_
 rintro ev w3 ⟨cv, rfl, hcv, hs⟩
 obtain ⟨ca, cc, rfl, -, -⟩ := hcv.sv.lenform
 clear l_2 l_5
 have B5 := Lib.hid (B4.out.trans (hs.mono B4.out.size))
 have LM_5 := Lib.hid (blk_step LM_4.out hs)
 have R_5 := Lib.hid (blk_step R_4.out hs)
 have N_5 := Lib.hid (blk_step N_4.out hs)
 clear B4 LM_4 R_4 N_4
 have CV_0 := Lib.hid (hcv.mono (Nat.zero_le _))
 clear hs hcv
 unfold refC
 have ks : Kept (fun k => k = w.heap.size + 1 + 1) w3 (World.setCells w3 (w.heap.size + 1 + 1) 11 ([.int .i64 (Ck.new l.t (l.c : Int)).n, .int .i64 (Ck.new l.t (l.c : Int)).l, .slice ca (Ck.new l.t l.c).L.length cc] : List Value).toArray.toList) := Kept.setCells _ 11 w3 (Kept.refl (fun k => k = w.heap.size + 1 + 1) w3)
 have B6 := Lib.hid (show Below w.heap.size w (World.setCells w3 (w.heap.size + 1 + 1) 11 ([.int .i64 (Ck.new l.t (l.c : Int)).n, .int .i64 (Ck.new l.t (l.c : Int)).l, .slice ca (Ck.new l.t l.c).L.length cc] : List Value).toArray.toList) from below_setCells (b := w.heap.size + 1 + 1) (by first | omega | (have := S4.out; omega) | (have := S4.out; have := S5.out; omega)) _ 11 _ B5.out)
 have th := Lib.hid (blk_thereAt N_5.out 11 3 (by simp))
 have LM_6 := Lib.hid ((ks.block _ (Array.getElem?_eq_some_iff.1 LM_5.out).1 (by first | omega | (have := S4.out; omega) | (have := S4.out; have := S5.out; omega))).trans LM_5.out)
 have R_6 := Lib.hid ((ks.block _ (Array.getElem?_eq_some_iff.1 R_5.out).1 (by first | omega | (have := S4.out; omega) | (have := S4.out; have := S5.out; omega))).trans R_5.out)
 have N_6 := Lib.hid (show ((World.setCells w3 (w.heap.size + 1 + 1) 11 ([.int .i64 (Ck.new l.t (l.c : Int)).n, .int .i64 (Ck.new l.t (l.c : Int)).l, .slice ca (Ck.new l.t l.c).L.length cc] : List Value).toArray.toList)).heap[w.heap.size + 1 + 1]? = some (mrObj l (.int .i64 (l.s : Int)) (.int .i64 (l.c : Int)) (.slice none 0 0) (.int .i64 (l.p : Int)) (.slice none 0 0) (.int .i64 (Ck.new l.t (l.c : Int)).n) (.int .i64 (Ck.new l.t (l.c : Int)).l) (.slice ca (Ck.new l.t l.c).L.length cc)) from blk_set3 N_5.out 11 (.int .i64 (Ck.new l.t (l.c : Int)).n) (.int .i64 (Ck.new l.t (l.c : Int)).l) (.slice ca (Ck.new l.t l.c).L.length cc))
 have CV_1 := Lib.hid (CV_0.out.kept ks (CV_0.out.offT N_5.out (by decide)))
 clear ks B5 LM_5 R_5 N_5 CV_0
 have fal := fun w => rf_alloc l.s l.c (.slice none 0 0) _ [] baseD w ((show Bare [] from fun _ h => by cases h).puts (OwnS.nil lPut 0 w)) (base_reads w) (by decide) OK.out.s2 OK.out.c2
 simp only [List.map_nil, AL.out.1, AL.out.2, refA] at fal
 have n_6 := blk_cell N_6.out 6
 have n_7 := blk_cell N_6.out 7
 have n_8 := blk_cell N_6.out 8
 simp at n_6 n_7 n_8
 go_wp2_with (refine wpList_store_mid rfl 41 (.tmp 36) (.tmp 34) rfl (w.heap.size + 1 + 1) 11 ([.int .i64 (Ck.new l.t (l.c : Int)).n, .int .i64 (Ck.new l.t (l.c : Int)).l, .slice ca (Ck.new l.t l.c).L.length cc] : List Value).toArray rfl rfl ?_ (by kernel_rfl) ?one ?_; (case one => first | rfl | (kernel_rfl) | (exact all_oneCell_toArray (fun u h => by simp at h; rcases h with h | h | h <;> subst h <;> rfl))); exact th.out; clear th; generalize hG : World.setCells _ _ _ _ = x3 at *; clear hG)
 refine (fal _).mono ?_
 rintro ev w4 ⟨pv, us, rfl, -, hpm, -, ⟨hnp, hbr⟩, hs⟩
 have hne : us ≠ [] := fun e => by rw [e] at hpm; cases hpm
 have ho := hnp.own hne
 have hbu := Bare.next (us := []) (fun _ h => by cases h) hbr
 clear hnp hbr hne fal n_6 n_7 n_8
 have B7 := Lib.hid (B6.out.trans (hs.mono B6.out.size))
 have LM_7 := Lib.hid (blk_step LM_6.out hs)
 have R_7 := Lib.hid (blk_step R_6.out hs)
 have N_7 := Lib.hid (blk_step N_6.out hs)
 have CV_2 := Lib.hid (CV_1.out.below hs)
 clear B6 LM_6 R_6 N_6 CV_1
 have PV_0 := Lib.hid (ho.mono (Nat.zero_le _))
 have PM := Lib.hid (And.intro hpm hbu)
 obtain ⟨pa, pc, rfl, -, -⟩ := ho.sv.lenform
 clear hs ho hpm hbu
 obtain ⟨un, hun⟩ : ∃ n, us.length = n := ⟨_, rfl⟩
 have UN := Lib.hid hun
 rw [hun] at PV_0 ⊢
 clear hun
 unfold refV
 have hs := (alloc_below0 w4 (.cells #[.int .i64 (l.s : Int), .int .i64 (l.c : Int), .slice pa un pc] 35)).trans ((alloc_below0 (World.alloc w4 (.cells #[.int .i64 (l.s : Int), .int .i64 (l.c : Int), .slice pa un pc] 35)) (.cells #[.int .i64 1, .int .i64 1] 48)).mono (alloc_below0 w4 (.cells #[.int .i64 (l.s : Int), .int .i64 (l.c : Int), .slice pa un pc] 35)).size)
 have S4 := Lib.hid (show w.heap.size + 1 + 1 < w4.heap.size from (Array.getElem?_eq_some_iff.1 N_7.out).1)
 have B8 := Lib.hid (B7.out.trans (hs.mono B7.out.size))
 have LM_8 := Lib.hid (blk_step LM_7.out hs)
 have R_8 := Lib.hid (blk_step R_7.out hs)
 have N_8 := Lib.hid (blk_step N_7.out hs)
 have CV_3 := Lib.hid (CV_2.out.below hs)
 have PV_1 := Lib.hid (PV_0.out.below hs)
 clear B7 LM_7 R_7 N_7 CV_2 PV_0
 clear hs
 have A4_0 := Lib.hid (blk_step (blk_new w4 (.cells #[.int .i64 (l.s : Int), .int .i64 (l.c : Int), .slice pa un pc] 35)) (alloc_below0 (World.alloc w4 (.cells #[.int .i64 (l.s : Int), .int .i64 (l.c : Int), .slice pa un pc] 35)) (.cells #[.int .i64 1, .int .i64 1] 48)))
 have R5_0 := Lib.hid (show (World.alloc (World.alloc w4 (.cells #[.int .i64 (l.s : Int), .int .i64 (l.c : Int), .slice pa un pc] 35)) (.cells #[.int .i64 1, .int .i64 1] 48)).heap[w4.heap.size + 1]? = some (.cells #[.int .i64 1, .int .i64 1] 48) from by rw [show w4.heap.size + 1 = (World.alloc w4 (.cells #[.int .i64 (l.s : Int), .int .i64 (l.c : Int), .slice pa un pc] 35)).heap.size by simp]; exact blk_new _ _)
 obtain ⟨gw, hgw⟩ : ∃ W, W = (World.alloc (World.alloc w4 (.cells #[.int .i64 (l.s : Int), .int .i64 (l.c : Int), .slice pa un pc] 35)) (.cells #[.int .i64 1, .int .i64 1] 48)) := ⟨_, rfl⟩
 rw [← hgw] at B8 LM_8 R_8 N_8 A4_0 R5_0 CV_3 PV_1
 have ks : Kept (fun k => k = w.heap.size + 1 + 1) gw (World.setCells gw (w.heap.size + 1 + 1) 6 ([.int .i64 (l.s : Int), .int .i64 (l.c : Int), .slice pa un pc] : List Value).toArray.toList) := Kept.setCells _ 6 gw (Kept.refl (fun k => k = w.heap.size + 1 + 1) gw)
 have B9 := Lib.hid (show Below w.heap.size w (World.setCells gw (w.heap.size + 1 + 1) 6 ([.int .i64 (l.s : Int), .int .i64 (l.c : Int), .slice pa un pc] : List Value).toArray.toList) from below_setCells (b := w.heap.size + 1 + 1) (by first | omega | (have := S4.out; omega) | (have := S4.out; have := S5.out; omega)) _ 6 _ B8.out)
 have th := Lib.hid (blk_thereAt N_8.out 6 3 (by simp))
 have LM_9 := Lib.hid ((ks.block _ (Array.getElem?_eq_some_iff.1 LM_8.out).1 (by first | omega | (have := S4.out; omega) | (have := S4.out; have := S5.out; omega))).trans LM_8.out)
 have R_9 := Lib.hid ((ks.block _ (Array.getElem?_eq_some_iff.1 R_8.out).1 (by first | omega | (have := S4.out; omega) | (have := S4.out; have := S5.out; omega))).trans R_8.out)
 have N_9 := Lib.hid (show ((World.setCells gw (w.heap.size + 1 + 1) 6 ([.int .i64 (l.s : Int), .int .i64 (l.c : Int), .slice pa un pc] : List Value).toArray.toList)).heap[w.heap.size + 1 + 1]? = some (mrObj l (.int .i64 (l.s : Int)) (.int .i64 (l.c : Int)) (.slice pa un pc) (.int .i64 (l.p : Int)) (.slice none 0 0) (.int .i64 (Ck.new l.t (l.c : Int)).n) (.int .i64 (Ck.new l.t (l.c : Int)).l) (.slice ca (Ck.new l.t l.c).L.length cc)) from blk_set3 N_8.out 6 (.int .i64 (l.s : Int)) (.int .i64 (l.c : Int)) (.slice pa un pc))
 have A4_1 := Lib.hid ((ks.block _ (Array.getElem?_eq_some_iff.1 A4_0.out).1 (by first | omega | (have := S4.out; omega) | (have := S4.out; have := S5.out; omega))).trans A4_0.out)
 have R5_1 := Lib.hid ((ks.block _ (Array.getElem?_eq_some_iff.1 R5_0.out).1 (by first | omega | (have := S4.out; omega) | (have := S4.out; have := S5.out; omega))).trans R5_0.out)
 have CV_4 := Lib.hid (CV_3.out.kept ks (CV_3.out.offT N_8.out (by decide)))
 have PV_2 := Lib.hid (PV_1.out.kept ks (PV_1.out.offT N_8.out (by decide)))
 clear ks B8 LM_8 R_8 N_8 A4_0 R5_0 CV_3 PV_1
 have n_9 := blk_cell N_9.out 9
 have n_10 := blk_cell N_9.out 10
 simp at n_9 n_10
 have fta := fun w => rf_take l.p (.slice none 0 0) [] (pages0 l.p) w (OwnS.nil lUp 0 w) (RefOk.nil l.p) (by simp [pages0]) OK.out.p2 (by simp)
 simp only [TK.out.1, TK.out.2.1, TK.out.2.2, refT] at fta
 go_wp2_with (rw [← hgw]; refine wpList_store_mid rfl 35 (.tmp 46) (.tmp 45) rfl (w.heap.size + 1 + 1) 6 ([.int .i64 (l.s : Int), .int .i64 (l.c : Int), .slice pa un pc] : List Value).toArray rfl rfl ?_ (by kernel_rfl) ?one ?_; (case one => first | rfl | (kernel_rfl) | (exact all_oneCell_toArray (fun u h => by simp at h; rcases h with h | h | h <;> subst h <;> rfl))); exact th.out; clear th; generalize hG : World.setCells _ _ _ _ = x4 at *; clear hG hgw)
 refine (fta _).mono ?_
 rintro ev w5 ⟨tv, us2, rfl, hto, hrk, hln, hs⟩
 clear n_9 n_10 fta
 have B10 := Lib.hid (B9.out.trans (hs.mono B9.out.size))
 have LM_10 := Lib.hid (blk_step LM_9.out hs)
 have R_10 := Lib.hid (blk_step R_9.out hs)
 have N_10 := Lib.hid (blk_step N_9.out hs)
 have A4_2 := Lib.hid (blk_step A4_1.out hs)
 have R5_2 := Lib.hid (blk_step R5_1.out hs)
 have CV_5 := Lib.hid (CV_4.out.below hs)
 have PV_3 := Lib.hid (PV_2.out.below hs)
 clear B9 LM_9 R_9 N_9 A4_1 R5_1 CV_4 PV_2
 have TV_0 := Lib.hid (hto)
 have RK := Lib.hid (And.intro hrk hln)
 obtain ⟨ta, tc, rfl, -, -⟩ := hto.sv.lenform
 clear hs hto hrk hln
 obtain ⟨tn, htn⟩ : ∃ n, us2.length = n := ⟨_, rfl⟩
 have TN := Lib.hid htn
 rw [htn] at TV_0 ⊢
 clear htn
 have hs := alloc_below0 w5 (.cells #[.int .i64 (l.p : Int), .slice ta tn tc] 38)
 have S5 := Lib.hid (show w4.heap.size + 1 < w5.heap.size from (Array.getElem?_eq_some_iff.1 R5_2.out).1)
 have B11 := Lib.hid (B10.out.trans (hs.mono B10.out.size))
 have LM_11 := Lib.hid (blk_step LM_10.out hs)
 have R_11 := Lib.hid (blk_step R_10.out hs)
 have N_11 := Lib.hid (blk_step N_10.out hs)
 have A4_3 := Lib.hid (blk_step A4_2.out hs)
 have R5_3 := Lib.hid (blk_step R5_2.out hs)
 have CV_6 := Lib.hid (CV_5.out.below hs)
 have PV_4 := Lib.hid (PV_3.out.below hs)
 have TV_1 := Lib.hid (TV_0.out.below hs)
 clear B10 LM_10 R_10 N_10 A4_2 R5_2 CV_5 PV_3 TV_0
 clear hs
 have T7_0 := Lib.hid (blk_new w5 (.cells #[.int .i64 (l.p : Int), .slice ta tn tc] 38))
 have fsw := fun w h => rf_swap l.p (.slice ta tn tc) us2 (pgs0 l.p) 0 0 0 1 1 w h RK.out.1 (by rw [show (pgs0 l.p).length = l.p from by have := OK.out.p1; simp [pgs0, pages0]; omega]) (by have := RK.out.2; simp at this; omega)
 simp only [SW.out.1, SW.out.2.1, SW.out.2.2, refT, refV] at fsw
 have r_0 := blk_cell R5_3.out 0
 have r_1 := blk_cell R5_3.out 1
 simp at r_0 r_1
 go_wp2_with fail
 refine (fsw _ TV_1.out).mono ?_
 rintro ev w6 ⟨tv3, us3, rfl, hto, hrk, hln, hs⟩
 clear r_0 r_1 fsw
 have B12 := Lib.hid (B11.out.trans (hs.mono B11.out.size))
 have LM_12 := Lib.hid (blk_step LM_11.out hs)
 have R_12 := Lib.hid (blk_step R_11.out hs)
 have N_12 := Lib.hid (blk_step N_11.out hs)
 have A4_4 := Lib.hid (blk_step A4_3.out hs)
 have R5_4 := Lib.hid (blk_step R5_3.out hs)
 have T7_1 := Lib.hid (blk_step T7_0.out hs)
 have CV_7 := Lib.hid (CV_6.out.below hs)
 have PV_5 := Lib.hid (PV_4.out.below hs)
 have TV_2 := Lib.hid (TV_1.out.below hs)
 clear B11 LM_11 R_11 N_11 A4_3 R5_3 T7_0 CV_6 PV_4 TV_1
 clear TV_2
 have TU_0 := Lib.hid (hto)
 have RQ := Lib.hid (And.intro hrk (Nat.le_trans hln (by have := RK.out.2; simpa using this)))
 obtain ⟨ta3, tc3, rfl, -, -⟩ := hto.sv.lenform
 clear hs hto hrk hln RK TN
 obtain ⟨tn3, htn3⟩ : ∃ n, us3.length = n := ⟨_, rfl⟩
 have TN3 := Lib.hid htn3
 rw [htn3] at TU_0 ⊢
 clear htn3
 have ks : Kept (fun k => k = w5.heap.size) w6 (World.setCells w6 (w5.heap.size) 0 ([.int .i64 (l.p : Int), .slice ta3 tn3 tc3] : List Value).toArray.toList) := Kept.setCells _ 0 w6 (Kept.refl (fun k => k = w5.heap.size) w6)
 have B13 := Lib.hid (show Below w.heap.size w (World.setCells w6 (w5.heap.size) 0 ([.int .i64 (l.p : Int), .slice ta3 tn3 tc3] : List Value).toArray.toList) from below_setCells (b := w5.heap.size) (by first | omega | (have := S4.out; omega) | (have := S4.out; have := S5.out; omega)) _ 0 _ B12.out)
 have th := Lib.hid (blk_thereAt T7_1.out 0 2 (by simp))
 have LM_13 := Lib.hid ((ks.block _ (Array.getElem?_eq_some_iff.1 LM_12.out).1 (by first | omega | (have := S4.out; omega) | (have := S4.out; have := S5.out; omega))).trans LM_12.out)
 have R_13 := Lib.hid ((ks.block _ (Array.getElem?_eq_some_iff.1 R_12.out).1 (by first | omega | (have := S4.out; omega) | (have := S4.out; have := S5.out; omega))).trans R_12.out)
 have N_13 := Lib.hid ((ks.block _ (Array.getElem?_eq_some_iff.1 N_12.out).1 (by first | omega | (have := S4.out; omega) | (have := S4.out; have := S5.out; omega))).trans N_12.out)
 have A4_5 := Lib.hid ((ks.block _ (Array.getElem?_eq_some_iff.1 A4_4.out).1 (by first | omega | (have := S4.out; omega) | (have := S4.out; have := S5.out; omega))).trans A4_4.out)
 have R5_5 := Lib.hid ((ks.block _ (Array.getElem?_eq_some_iff.1 R5_4.out).1 (by first | omega | (have := S4.out; omega) | (have := S4.out; have := S5.out; omega))).trans R5_4.out)
 have T7_2 := Lib.hid (show ((World.setCells w6 (w5.heap.size) 0 ([.int .i64 (l.p : Int), .slice ta3 tn3 tc3] : List Value).toArray.toList)).heap[w5.heap.size]? = some (.cells #[.int .i64 (l.p : Int), .slice ta3 tn3 tc3] 38) from blk_set2 T7_1.out 0 (.int .i64 (l.p : Int)) (.slice ta3 tn3 tc3))
 have CV_8 := Lib.hid (CV_7.out.kept ks (CV_7.out.offT T7_1.out (by decide)))
 have PV_6 := Lib.hid (PV_5.out.kept ks (PV_5.out.offT T7_1.out (by decide)))
 have TU_1 := Lib.hid (TU_0.out.kept ks (TU_0.out.offT T7_1.out (by decide)))
 clear ks B12 LM_12 R_12 N_12 A4_4 R5_4 T7_1 CV_7 PV_5 TU_0
 go_upto_region 9 with (refine wpList_store_mid rfl 38 (.tmp 7) (.tmp 59) rfl (w5.heap.size) 0 ([.int .i64 (l.p : Int), .slice ta3 tn3 tc3] : List Value).toArray rfl rfl ?_ (by kernel_rfl) ?one ?_; (case one => first | rfl | (kernel_rfl) | (exact all_oneCell_toArray (fun u h => by simp at h; rcases h with h | h | h <;> subst h <;> rfl))); exact th.out; clear th; generalize hG : World.setCells _ _ _ _ = x5 at *; clear hG)
 have t_0 := blk_cell T7_2.out 0
 have t_1 := blk_cell T7_2.out 1
 simp at t_0 t_1
 have ks : Kept (fun k => k = w.heap.size + 1 + 1) x5 (World.setCells x5 (w.heap.size + 1 + 1) 9 ([.int .i64 (l.p : Int), .slice ta3 tn3 tc3] : List Value).toArray.toList) := Kept.setCells _ 9 x5 (Kept.refl (fun k => k = w.heap.size + 1 + 1) x5)
 have B14 := Lib.hid (show Below w.heap.size w (World.setCells x5 (w.heap.size + 1 + 1) 9 ([.int .i64 (l.p : Int), .slice ta3 tn3 tc3] : List Value).toArray.toList) from below_setCells (b := w.heap.size + 1 + 1) (by first | omega | (have := S4.out; omega) | (have := S4.out; have := S5.out; omega)) _ 9 _ B13.out)
 have th := Lib.hid (blk_thereAt N_13.out 9 2 (by simp))
 have LM_14 := Lib.hid ((ks.block _ (Array.getElem?_eq_some_iff.1 LM_13.out).1 (by first | omega | (have := S4.out; omega) | (have := S4.out; have := S5.out; omega))).trans LM_13.out)
 have R_14 := Lib.hid ((ks.block _ (Array.getElem?_eq_some_iff.1 R_13.out).1 (by first | omega | (have := S4.out; omega) | (have := S4.out; have := S5.out; omega))).trans R_13.out)
 have N_14 := Lib.hid (show ((World.setCells x5 (w.heap.size + 1 + 1) 9 ([.int .i64 (l.p : Int), .slice ta3 tn3 tc3] : List Value).toArray.toList)).heap[w.heap.size + 1 + 1]? = some (mrObj l (.int .i64 (l.s : Int)) (.int .i64 (l.c : Int)) (.slice pa un pc) (.int .i64 (l.p : Int)) (.slice ta3 tn3 tc3) (.int .i64 (Ck.new l.t (l.c : Int)).n) (.int .i64 (Ck.new l.t (l.c : Int)).l) (.slice ca (Ck.new l.t l.c).L.length cc)) from blk_set2 N_13.out 9 (.int .i64 (l.p : Int)) (.slice ta3 tn3 tc3))
 have A4_6 := Lib.hid ((ks.block _ (Array.getElem?_eq_some_iff.1 A4_5.out).1 (by first | omega | (have := S4.out; omega) | (have := S4.out; have := S5.out; omega))).trans A4_5.out)
 have R5_6 := Lib.hid ((ks.block _ (Array.getElem?_eq_some_iff.1 R5_5.out).1 (by first | omega | (have := S4.out; omega) | (have := S4.out; have := S5.out; omega))).trans R5_5.out)
 have T7_3 := Lib.hid ((ks.block _ (Array.getElem?_eq_some_iff.1 T7_2.out).1 (by first | omega | (have := S4.out; omega) | (have := S4.out; have := S5.out; omega))).trans T7_2.out)
 have CV_9 := Lib.hid (CV_8.out.kept ks (CV_8.out.offT N_13.out (by decide)))
 have PV_7 := Lib.hid (PV_6.out.kept ks (PV_6.out.offT N_13.out (by decide)))
 have TU_2 := Lib.hid (TU_1.out.kept ks (TU_1.out.offT N_13.out (by decide)))
 clear ks B13 LM_13 R_13 N_13 A4_5 R5_5 T7_2 CV_8 PV_6 TU_1
 go_upto_region 10 with (refine wpList_store_mid rfl 38 (.tmp 63) (.tmp 62) rfl (w.heap.size + 1 + 1) 9 ([.int .i64 (l.p : Int), .slice ta3 tn3 tc3] : List Value).toArray rfl rfl ?_ (by kernel_rfl) ?one ?_; (case one => first | rfl | (kernel_rfl) | (exact all_oneCell_toArray (fun u h => by simp at h; rcases h with h | h | h <;> subst h <;> rfl))); exact th.out; clear th; generalize hG : World.setCells _ _ _ _ = x6 at *; clear hG)
 have n_0 := blk_cell N_14.out 0
 have n_1 := blk_cell N_14.out 1
 have n_2 := blk_cell N_14.out 2
 have n_3 := blk_cell N_14.out 3
 have n_4 := blk_cell N_14.out 4
 have n_5 := blk_cell N_14.out 5
 have n_6 := blk_cell N_14.out 6
 have n_7 := blk_cell N_14.out 7
 have n_8 := blk_cell N_14.out 8
 have n_9 := blk_cell N_14.out 9
 have n_10 := blk_cell N_14.out 10
 have n_11 := blk_cell N_14.out 11
 have n_12 := blk_cell N_14.out 12
 have n_13 := blk_cell N_14.out 13
 have n_14 := blk_cell N_14.out 14
 simp at n_0 n_1 n_2 n_3 n_4 n_5 n_6 n_7 n_8 n_9 n_10 n_11 n_12 n_13 n_14
 have ks : Kept (fun k => k = w.heap.size + 1) x6 (World.setCells x6 (w.heap.size + 1) 0 ([.int .i64 (l.s : Int), .int .i64 (l.p : Int), .int .i64 (l.t : Int), .int .i64 (l.r : Int), .int .i64 (l.h : Int), .int .i64 (l.c : Int), .int .i64 (l.s : Int), .int .i64 (l.c : Int), .slice pa un pc, .int .i64 (l.p : Int), .slice ta3 tn3 tc3, .int .i64 (Ck.new l.t (l.c : Int)).n, .int .i64 (Ck.new l.t (l.c : Int)).l, .slice ca (Ck.new l.t l.c).L.length cc, .int .i64 0] : List Value).toArray.toList) := Kept.setCells _ 0 x6 (Kept.refl (fun k => k = w.heap.size + 1) x6)
 have B15 := Lib.hid (show Below w.heap.size w (World.setCells x6 (w.heap.size + 1) 0 ([.int .i64 (l.s : Int), .int .i64 (l.p : Int), .int .i64 (l.t : Int), .int .i64 (l.r : Int), .int .i64 (l.h : Int), .int .i64 (l.c : Int), .int .i64 (l.s : Int), .int .i64 (l.c : Int), .slice pa un pc, .int .i64 (l.p : Int), .slice ta3 tn3 tc3, .int .i64 (Ck.new l.t (l.c : Int)).n, .int .i64 (Ck.new l.t (l.c : Int)).l, .slice ca (Ck.new l.t l.c).L.length cc, .int .i64 0] : List Value).toArray.toList) from below_setCells (b := w.heap.size + 1) (by first | omega | (have := S4.out; omega) | (have := S4.out; have := S5.out; omega)) _ 0 _ B14.out)
 have th := Lib.hid (blk_thereAt R_14.out 0 15 (by simp))
 have LM_15 := Lib.hid ((ks.block _ (Array.getElem?_eq_some_iff.1 LM_14.out).1 (by first | omega | (have := S4.out; omega) | (have := S4.out; have := S5.out; omega))).trans LM_14.out)
 have R_15 := Lib.hid (show ((World.setCells x6 (w.heap.size + 1) 0 ([.int .i64 (l.s : Int), .int .i64 (l.p : Int), .int .i64 (l.t : Int), .int .i64 (l.r : Int), .int .i64 (l.h : Int), .int .i64 (l.c : Int), .int .i64 (l.s : Int), .int .i64 (l.c : Int), .slice pa un pc, .int .i64 (l.p : Int), .slice ta3 tn3 tc3, .int .i64 (Ck.new l.t (l.c : Int)).n, .int .i64 (Ck.new l.t (l.c : Int)).l, .slice ca (Ck.new l.t l.c).L.length cc, .int .i64 0] : List Value).toArray.toList)).heap[w.heap.size + 1]? = some (.cells (([.int .i64 (l.s : Int), .int .i64 (l.p : Int), .int .i64 (l.t : Int), .int .i64 (l.r : Int), .int .i64 (l.h : Int), .int .i64 (l.c : Int), .int .i64 (l.s : Int), .int .i64 (l.c : Int), .slice pa un pc, .int .i64 (l.p : Int), .slice ta3 tn3 tc3, .int .i64 (Ck.new l.t (l.c : Int)).n, .int .i64 (Ck.new l.t (l.c : Int)).l, .slice ca (Ck.new l.t l.c).L.length cc, .int .i64 0] : List Value)).toArray 43) from list_laid ([.int .i64 (l.s : Int), .int .i64 (l.p : Int), .int .i64 (l.t : Int), .int .i64 (l.r : Int), .int .i64 (l.h : Int), .int .i64 (l.c : Int), .int .i64 (l.s : Int), .int .i64 (l.c : Int), .slice pa un pc, .int .i64 (l.p : Int), .slice ta3 tn3 tc3, .int .i64 (Ck.new l.t (l.c : Int)).n, .int .i64 (Ck.new l.t (l.c : Int)).l, .slice ca (Ck.new l.t l.c).L.length cc, .int .i64 0] : List Value) R_14.out rfl)
 have N_15 := Lib.hid ((ks.block _ (Array.getElem?_eq_some_iff.1 N_14.out).1 (by first | omega | (have := S4.out; omega) | (have := S4.out; have := S5.out; omega))).trans N_14.out)
 have A4_7 := Lib.hid ((ks.block _ (Array.getElem?_eq_some_iff.1 A4_6.out).1 (by first | omega | (have := S4.out; omega) | (have := S4.out; have := S5.out; omega))).trans A4_6.out)
 have R5_7 := Lib.hid ((ks.block _ (Array.getElem?_eq_some_iff.1 R5_6.out).1 (by first | omega | (have := S4.out; omega) | (have := S4.out; have := S5.out; omega))).trans R5_6.out)
 have T7_4 := Lib.hid ((ks.block _ (Array.getElem?_eq_some_iff.1 T7_3.out).1 (by first | omega | (have := S4.out; omega) | (have := S4.out; have := S5.out; omega))).trans T7_3.out)
 have CV_10 := Lib.hid (CV_9.out.kept ks (CV_9.out.offT R_14.out (by decide)))
 have PV_8 := Lib.hid (PV_7.out.kept ks (PV_7.out.offT R_14.out (by decide)))
 have TU_3 := Lib.hid (TU_2.out.kept ks (TU_2.out.offT R_14.out (by decide)))
 clear ks B14 LM_14 R_14 N_14 A4_6 R5_6 T7_3 CV_9 PV_7 TU_2
 go_wp2_with (refine wpList_store_mid rfl 43 (.tmp 2) (.tmp 64) rfl (w.heap.size + 1) 0 ([.int .i64 (l.s : Int), .int .i64 (l.p : Int), .int .i64 (l.t : Int), .int .i64 (l.r : Int), .int .i64 (l.h : Int), .int .i64 (l.c : Int), .int .i64 (l.s : Int), .int .i64 (l.c : Int), .slice pa un pc, .int .i64 (l.p : Int), .slice ta3 tn3 tc3, .int .i64 (Ck.new l.t (l.c : Int)).n, .int .i64 (Ck.new l.t (l.c : Int)).l, .slice ca (Ck.new l.t l.c).L.length cc, .int .i64 0] : List Value).toArray rfl rfl ?_ (by kernel_rfl) ?one ?_; (case one => first | rfl | (kernel_rfl) | (exact all_oneCell_toArray (fun u h => by simp only [List.mem_cons, List.not_mem_nil, or_false] at h; rcases h with h | h | h | h | h | h | h | h | h | h | h | h | h | h | h <;> subst h <;> rfl))); exact th.out; clear th; generalize hG : World.setCells _ _ _ _ = x7 at *; clear hG)
 refine bodyPost_ret (v := .agg ([.int .i64 (l.s : Int), .int .i64 (l.p : Int), .int .i64 (l.t : Int), .int .i64 (l.r : Int), .int .i64 (l.h : Int), .int .i64 (l.c : Int), .int .i64 (l.s : Int), .int .i64 (l.c : Int), .slice pa un pc, .int .i64 (l.p : Int), .slice ta3 tn3 tc3, .int .i64 (Ck.new l.t (l.c : Int)).n, .int .i64 (Ck.new l.t (l.c : Int)).l, .slice ca (Ck.new l.t l.c).L.length cc, .int .i64 0] : List Value).toArray) (results_cell1 rfl _ _ (w.heap.size + 1) _ _ rfl (blk_rng R_15.out) Tryz.underlying43 rfl (by kernel_rfl)) rfl ?_
 exact ⟨_, us, _, us3, _, rfl, PV_8.out, PM.out.2, PM.out.1, TU_3.out, RQ.out.1, RQ.out.2, ⟨_, _, _, rfl⟩, B15.out⟩
end Go.Proofs.YtejmdmaebkdjoaaGreatDoor
