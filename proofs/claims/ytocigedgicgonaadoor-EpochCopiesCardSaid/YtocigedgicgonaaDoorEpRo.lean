/- The document's own clock: its Oldest, by a contract. -/
import Derived.Test.YtocigedgicgonaaDoorEpRg
namespace Go.Proofs.YtocigedgicgonaaDoor
open Go.RowKit

theorem oldL_step {n : Int} {L : List Int} {k : Nat} {x : Int} (h : L[k]? = some x) : oldL n (L.take (k + 1)) = if 0 < x ∧ x < oldL n (L.take k) then x else oldL n (L.take k) := by
  obtain ⟨hk, rfl⟩ := List.getElem?_eq_some_iff.1 h
  unfold oldL
  rw [List.take_succ_eq_append_getElem hk, List.foldl_append]; rfl
set_option maxRecDepth 100000 in
set_option maxHeartbeats 4000000 in
theorem rf_oldest (c : Ck) (v : Value) (w : World) (hok : c.ok) (hv : OwnS lInt 0 w v c.L) :
    Calls Tryd.prog 29 #[refC c v] w fun ev w' => ev = .returned (.int .i64 c.oldest) ∧ Below w.heap.size w w' := by
  obtain ⟨N, hN⟩ : ∃ N, c.L.length = N := ⟨_, rfl⟩
  obtain ⟨va, vc, rfl, -, -⟩ := hv.lenN hN
  obtain ⟨W, hW⟩ : ∃ W, W = w.alloc (refO c.n c.l (.slice va N vc)) := ⟨_, rfl⟩
  have b1 := alloc_below0 w (refO c.n c.l (.slice va N vc))
  have K1 := Lib.hid (show W.heap[w.heap.size]? = some (refO c.n c.l (.slice va N vc)) by rw [hW]; exact blk_new w _)
  have B1 := Lib.hid (show Below w.heap.size w W by rw [hW]; exact b1)
  have V1 := Lib.hid (hv.below B1.out)
  have LN := Lib.hid (show c.L.length = N ∧ N ≤ 64 from ⟨hN, hN ▸ hok.tm⟩)
  unfold refO at hW
  unfold refC
  clear b1 hv hN
  go_enter Tryd.func29, Tryd.ntmps29
  go_wp2
  rw [← hW]
  clear hW
  have t2 : W.cell? ⟨w.heap.size, 2, none⟩ = some (.slice va N vc) := blk_cell K1.out 2
  go_loopg [3, 4] N (fun r o i wr => ∃ (k : Nat) (z : Int), k + r = N ∧ i = .int .i64 k ∧ o = .int .i64 z ∧ z = oldL c.n (c.L.take k) ∧ wr = W)
  case atStart => exact ⟨0, c.n, by omega, rfl, rfl, rfl, rfl⟩
  case round =>
    obtain ⟨k, z, hk, rfl, rfl, hz, rfl⟩ := hrel
    have HK := Lib.hid hk
    have HZ := Lib.hid hz
    by_cases hlt : k < N
    · obtain ⟨x, hx⟩ : ∃ x, c.L[k]? = some x := ⟨_, List.getElem?_eq_getElem (by rw [LN.out.1]; exact hlt)⟩
      obtain ⟨g, ha⟩ := V1.out.addrN (by omega)
      subst ha
      have x0 := V1.out.sv.cellAt (j := 0) hx rfl
      simp only [lInt, Nat.mul_one, Nat.add_zero, Nat.zero_add] at x0
      have i1 : IntKind.i64.wrap ((k : Int) + 1) = (k : Int) + 1 := Go.IntWalk.i64_in _ (by have := LN.out; omega)
      have j3 : (0 : Int) ≤ (k : Int) := by omega
      have j4 : (k : Int) < (N : Int) := by omega
      have ST := Lib.hid (oldL_step (n := c.n) hx)
      rw [← HZ.out] at ST
      clear hk hz hx
      by_cases p1 : 0 < x
      · by_cases p2 : x < z
        · have e : x = oldL c.n (c.L.take (k + 1)) := by rw [ST.out, if_pos ⟨p1, p2⟩]
          have E := Lib.hid e
          clear e ST
          go_wp2
          go_roundg (N - (k + 1))
          case measure => have := HK.out; omega
          case rel => exact ⟨k + 1, x, by omega, by go_num, rfl, E.out, rfl⟩
        · have E := Lib.hid (show z = oldL c.n (c.L.take (k + 1)) by rw [ST.out, if_neg (fun h => p2 h.2)])
          clear ST
          go_wp2
          go_roundg (N - (k + 1))
          case measure => have := HK.out; omega
          case rel => exact ⟨k + 1, z, by omega, by go_num, rfl, E.out, rfl⟩
      · have E := Lib.hid (show z = oldL c.n (c.L.take (k + 1)) by rw [ST.out, if_neg (fun h => p1 h.1)])
        clear ST
        go_wp2
        go_roundg (N - (k + 1))
        case measure => have := HK.out; omega
        case rel => exact ⟨k + 1, z, by omega, by go_num, rfl, E.out, rfl⟩
    · obtain rfl : k = N := by omega
      have E := Lib.hid (show z = c.oldest by rw [HZ.out, List.take_of_length_le (by rw [LN.out.1]; exact Nat.le_refl _)]; rfl)
      clear hk hz
      go_wp2
      go_ret
      exact ⟨by rw [← E.out]; rfl, B1.out⟩
end Go.Proofs.YtocigedgicgonaaDoor
