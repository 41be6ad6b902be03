/- Package inner's own find (layer 8), by a contract, over slices.BinarySearchFunc. -/
import Derived.Test.YtkkmfacngmginaaInCat
namespace Go.Proofs.Ytkkmfacngmginaa
open Go.RowKit

set_option maxRecDepth 100000 in
set_option maxHeartbeats 4000000 in
theorem bsearch_any (v : Value) (es : List En) (key : ByteArray) (w : World) (hv : SV lEnt w v es) (hr : risE none es = true) (hl : es.length ≤ 2000) :
    Calls Try.prog 88 #[v, .string key, cmpF] w fun ev w' => ev = .returned (.tuple #[.int .i64 (aheadE es key : Int), .bool (thereE es key)]) ∧ Below w.heap.size w w' := by
  obtain ⟨a, c, rfl, hlc, hcm⟩ := hv.lenform
  obtain ⟨n, hn⟩ : ∃ n, es.length = n := ⟨_, rfl⟩
  have V := Lib.hid (show SV lEnt w (.slice a n c) es ∧ risE none es = true ∧ es.length = n ∧ aheadE es key ≤ n from ⟨by rw [← hn]; exact hv, hr, hn, by rw [← hn]; exact aheadE_le _ _⟩)
  rw [hn] at hlc hl ⊢
  unfold maxLen at hcm
  clear hv hr hn
  unfold cmpF
  go_enter Try.func88, Try.ntmps88
  go_wp2
  go_loopg [9, 10] n (fun m vi vj wr => ∃ i j : Nat, j = i + m ∧ j ≤ n ∧ vi = .int .i64 i ∧ vj = .int .i64 j ∧ i ≤ aheadE es key ∧ aheadE es key ≤ j ∧ Below w.heap.size w wr)
  case atStart => exact ⟨0, n, by omega, Nat.le_refl _, rfl, rfl, Nat.zero_le _, V.out.2.2.2, Below.refl _ _⟩
  case round =>
    obtain ⟨i, j, hj, hjn, rfl, rfl, h1, h2, hB⟩ := hrel
    have A := Lib.hid (show j = i + gk ∧ j ≤ n ∧ i ≤ aheadE es key ∧ aheadE es key ≤ j ∧ Below w.heap.size w wr from ⟨hj, hjn, h1, h2, hB⟩)
    clear h1 h2 hB
    by_cases hlt : i < j
    · obtain ⟨m, hm⟩ : ∃ m : Nat, (i + j) / 2 = m := ⟨_, rfl⟩
      have hm1 : ((i : Int) + (j : Int)) / 2 = (m : Int) := by omega
      have hmn : m < n := by omega
      have M := Lib.hid (show i ≤ m ∧ m < j by omega)
      obtain ⟨b, off, ha⟩ := V.out.1.addr (by rw [V.out.2.2.1]; omega)
      subst ha
      have hx := mem_at (es := es) (i := m) (by rw [V.out.2.2.1]; exact hmn)
      have x0 := cell_step (V.out.1.cellAt (j := 0) hx rfl) A.out.2.2.2.2
      have x1 := cell_step (V.out.1.cellAt (j := 1) hx rfl) A.out.2.2.2.2
      simp only [lEnt, Nat.add_zero] at x0 x1
      have T := Lib.hid (show bef (es.getD m e0).1.data.toList key.data.toList = decide (m < aheadE es key) from ahead_lt V.out.2.1 (by rw [V.out.2.2.1]; exact hmn))
      have G := Lib.hid hlt
      clear hm hx hj hlt hjn
      generalize es.getD m e0 = e at *
      obtain ⟨k, p⟩ := e
      obtain ⟨z, hz⟩ : ∃ z, cmp k.data.toList key.data.toList = z := ⟨_, rfl⟩
      have Z := Lib.hid hz
      have hzb : decide (z < 0) = decide (m < aheadE es key) := by rw [← hz, cmp_ltB]; exact T.out
      clear hz
      by_cases hma : m < aheadE es key
      · have hz1 : z < 0 := by rw [decide_eq_true hma] at hzb; exact of_decide_eq_true hzb
        have MA := Lib.hid hma
        clear hzb hma
        go_wp2_with fail
        refine (findCl_any (k, p) key _).mono ?_
        rintro ev w2 ⟨rfl, hs⟩
        rw [Z.out]
        have B2 := Lib.hid (A.out.2.2.2.2.trans (hs.mono A.out.2.2.2.2.size))
        clear hs
        go_wp2
        go_roundg (j - (m + 1))
        case measure => have := A.out.1; have := M.out; omega
        case rel => exact ⟨m + 1, j, by have := M.out; omega, A.out.2.1, by go_num, rfl, MA.out, A.out.2.2.2.1, B2.out⟩
      · have hz1 : 0 ≤ z := by rw [decide_eq_false hma] at hzb; have := of_decide_eq_false hzb; omega
        have MA := Lib.hid hma
        clear hzb hma
        go_wp2_with fail
        refine (findCl_any (k, p) key _).mono ?_
        rintro ev w2 ⟨rfl, hs⟩
        rw [Z.out]
        have B2 := Lib.hid (A.out.2.2.2.2.trans (hs.mono A.out.2.2.2.2.size))
        clear hs
        go_wp2
        go_roundg (m - i)
        case measure => have := A.out.1; have := M.out; omega
        case rel => exact ⟨i, m, by have := M.out; omega, by omega, rfl, rfl, A.out.2.2.1, by have := MA.out; omega, B2.out⟩
    · obtain rfl : j = i := by omega
      have hi : j = aheadE es key := by have := A.out.2.2; omega
      have HI := Lib.hid hi
      clear hj hlt hi
      by_cases hjl : j < n
      · obtain ⟨b, off, ha⟩ := V.out.1.addr (by rw [V.out.2.2.1]; omega)
        subst ha
        have hx := mem_at (es := es) (i := j) (by rw [V.out.2.2.1]; exact hjl)
        have x0 := cell_step (V.out.1.cellAt (j := 0) hx rfl) A.out.2.2.2.2
        have x1 := cell_step (V.out.1.cellAt (j := 1) hx rfl) A.out.2.2.2.2
        simp only [lEnt, Nat.add_zero] at x0 x1
        have T := Lib.hid (show thereE es key = eqB (es.getD j e0).1 key by unfold thereE; rw [← HI.out, V.out.2.2.1, decide_eq_true hjl]; rfl)
        clear hx
        generalize es.getD j e0 = e at *
        obtain ⟨k, p⟩ := e
        go_wp2_with fail
        refine (findCl_any (k, p) key _).mono ?_
        rintro ev w2 ⟨rfl, hs⟩
        have B2 := Lib.hid (A.out.2.2.2.2.trans (hs.mono A.out.2.2.2.2.size))
        clear hs
        go_wp2
        go_ret2
        exact ⟨by rw [← HI.out, T.out, ← cmp_eqB]; rfl, B2.out⟩
      · have T := Lib.hid (show thereE es key = false by unfold thereE; rw [← HI.out, V.out.2.2.1, decide_eq_false hjl]; rfl)
        go_wp2
        go_ret2
        exact ⟨by rw [← HI.out, T.out]; rfl, A.out.2.2.2.2⟩
def findV (v : IvD) (k : ByteArray) : Value := .tuple #[.int .i64 (aheadE v.ents k : Int), .bool (thereE v.ents k)]
theorem findI_any (v : IvD) (en : Value) (key : ByteArray) (w : World) (hv : SV lEnt w en v.ents) (hr : risE none v.ents = true) (hl : v.ents.length ≤ 2000) :
    Calls Try.prog 50 #[ivVal v en, .string key] w fun ev w' => ev = .returned (findV v key) ∧ Below w.heap.size w w' := by
  obtain ⟨a, c, rfl, -, -⟩ := hv.lenform
  obtain ⟨n, hn⟩ : ∃ n, v.ents.length = n := ⟨_, rfl⟩
  rw [hn] at hv ⊢
  have hs := alloc_below0 w (ivObj v (.slice a n c))
  have V := VB.new v (.slice a n c) w
  have E := Lib.hid (hv.below hs)
  have v_4 := V.c4
  have B := Lib.hid hs
  clear hs V hv hn
  unfold ivObj at B v_4 E
  unfold ivVal
  go_enter Try.func50, Try.ntmps50
  go_wp2_with fail
  refine (bsearch_any (.slice a n c) v.ents key _ E.out hr hl).mono ?_
  rintro ev w1 ⟨rfl, hs⟩
  have B1 := Lib.hid (B.out.trans (hs.mono B.out.size))
  clear hs v_4
  go_wp2
  go_ret2
  exact ⟨rfl, B1.out⟩
end Go.Proofs.Ytkkmfacngmginaa
