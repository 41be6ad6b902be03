/- The law's own 'few' (it answers some bool) and 'made' (a chain of the way's places over its code), by contracts. -/
import Derived.Test.YtkhhdaekdledoaaDoorFltAwake
import Derived.IntWalk
namespace Go.Proofs.YtkhhdaekdledoaaDoor
open Go.RowKit Go.Extern.Stop Go.Stop Go.Extern

def SomeBool (w : World) (e : Ending) (w' : World) : Prop := ∃ B, e = .returned (.bool B) ∧ Below w.heap.size w w'

set_option maxHeartbeats 4000000 in
theorem few_any (vp vs : Value) (c : Int) (ps : List ByteArray) (w : World) (hp : StrsV w vp ps) :
    Calls Tryd.prog 7 #[.agg #[vp, vs, .int .i64 c]] w (SomeBool w) := by
  obtain ⟨a, cap, rfl, hm, hr⟩ := hp
  unfold maxLen at hm
  have R : Aside (∀ i, i < ps.length → ∃ b off, a = some ⟨b, off, none⟩ ∧ w.cell? ⟨b, off + i, none⟩ = some (.string (ps.getD i ByteArray.empty))) := hr
  clear hr
  go_enter Tryd.func7, Tryd.ntmps7
  go_wp2
  go_loop [3, 4] (fun n i => ∃ (k : Nat) (z : Int), k ≤ ps.length ∧ k ≤ 101 ∧ 0 ≤ z ∧ z ≤ 2000 * k ∧ i = .int .i64 k ∧ n = .int .i64 z) (fun _ i => ps.length - (intOf i).toNat)
  case atStart => exact ⟨0, 0, by omega, by omega, by omega, by omega, rfl, rfl⟩
  case round =>
    obtain ⟨k, z, hk, hk2, hz0, hz1, rfl, rfl⟩ := hrel
    by_cases hlt : k < ps.length
    · obtain ⟨b, off, rfl, hc⟩ := R.out k hlt
      have hcl := lt_of_cell hc
      have hc' : (w.alloc (.cells #[.slice (some ⟨b, off, none⟩) ps.length cap, vs, .int .i64 c] 26)).cell? ⟨b, off + k, none⟩ = some (.string (ps.getD k ByteArray.empty)) := by
        rw [World.cell?_alloc_lt _ _ ⟨b, off + k, none⟩ hcl]; exact hc
      clear hc
      by_cases h100 : k ≤ 100
      · go_wp2
        exact ⟨⟨k + 1, _, by omega, by omega, by split <;> omega, by split <;> omega, by go_num, rfl⟩, by simp [intOf]; omega⟩
      · go_wp2
        all_goals (go_ret; exact ⟨_, rfl, (Below.refl _ _).alloc (Nat.le_refl _) _⟩)
    · go_wp2
      all_goals (go_ret; exact ⟨_, rfl, (Below.refl _ _).alloc (Nat.le_refl _) _⟩)

/-- What 'made' answers: a chain over the code, with the way's places. -/
def MadeOf (w : World) (ps : List ByteArray) (c : Int) (e : Ending) (w' : World) : Prop :=
  ∃ (l : List (ByteArray × Int)) (v : Value), e = .returned v ∧ Chn w' v l c ∧ l.map Prod.fst = ps ∧ Below w.heap.size w w'

set_option maxRecDepth 100000 in
set_option maxHeartbeats 4000000 in
theorem made_any (vp vs : Value) (c : Int) (ps : List ByteArray) (ss : List Int) (w : World) (hp : StrsV w vp ps) (hs : IntsV w vs ss) :
    Calls Tryd.prog 9 #[.agg #[vp, vs, .int .i64 c]] w (MadeOf w ps c) := by
  obtain ⟨a, cap, rfl, hm, hr⟩ := hp
  obtain ⟨a', cap', rfl, hm', hr'⟩ := hs
  unfold maxLen at hm hm'
  have R : Aside (∀ i, i < ps.length → ∃ b off, a = some ⟨b, off, none⟩ ∧ w.cell? ⟨b, off + i, none⟩ = some (.string (ps.getD i ByteArray.empty))) := hr
  have R' : Aside (∀ i, i < ss.length → ∃ b off, a' = some ⟨b, off, none⟩ ∧ w.cell? ⟨b, off + i, none⟩ = some (.int .i64 (ss.getD i 0))) := hr'
  clear hr hr'
  go_enter Tryd.func9, Tryd.ntmps9
  go_wp2
  go_loopg [3, 4] ps.length (fun k e i wr => ∃ l, k ≤ ps.length ∧ i = .int .i64 ((k : Int) - 1) ∧ Chn wr e l c ∧ l.map Prod.fst = ps.drop k ∧ Below (w.heap.size + 1) (w.alloc (.cells #[.slice a ps.length cap, .slice a' ss.length cap', .int .i64 c] 26)) wr)
  case atStart => exact ⟨[], Nat.le_refl _, rfl, rfl, by simp, Below.refl _ _⟩
  case round =>
    obtain ⟨l, hk, rfl, hC, hl, hB⟩ := hrel
    have hz : w.heap.size + 1 ≤ wr.heap.size := by have := hB.size; simpa using this
    have c0 : wr.cell? ⟨w.heap.size, 0, none⟩ = some (.slice a ps.length cap) := by rw [hB.cell (p := ⟨w.heap.size, 0, none⟩) (by simp)]; rw [World.cell?_alloc_at _ _ _ _ rfl]; rfl
    have c1 : wr.cell? ⟨w.heap.size, 1, none⟩ = some (.slice a' ss.length cap') := by rw [hB.cell (p := ⟨w.heap.size, 1, none⟩) (by simp)]; rw [World.cell?_alloc_at _ _ _ _ rfl]; rfl
    obtain ⟨u, v, rfl⟩ := hC.held
    cases gk with
    | zero =>
      have D : Aside (Chn wr (.iface u v) l c ∧ l.map Prod.fst = ps ∧ Below w.heap.size w wr) := ⟨hC, by simpa using hl, ((Below.refl _ _).alloc (Nat.le_refl _) _).trans (hB.mono (by omega))⟩
      clear hC hl hB
      go_wp2
      go_ret
      exact ⟨l, _, rfl, D.out.1, D.out.2.1, D.out.2.2⟩
    | succ k =>
      have e1 : (((k + 1 : Nat) : Int) - 1) = (k : Int) := by omega
      rw [e1]
      clear e1
      have hlt : k < ps.length := hk
      obtain ⟨b, off, rfl, hc⟩ := R.out k hlt
      have hcl := lt_of_cell hc
      have hc' : wr.cell? ⟨b, off + k, none⟩ = some (.string (ps.getD k ByteArray.empty)) := by
        rw [hB.cell (p := ⟨b, off + k, none⟩) (by simp; omega), World.cell?_alloc_lt _ _ ⟨b, off + k, none⟩ hcl]; exact hc
      clear hc
      have D : Aside (Chn wr (.iface u v) l c ∧ l.map Prod.fst = ps.drop (k + 1) ∧ Below (w.heap.size + 1) _ wr) := ⟨hC, hl, hB⟩
      by_cases hs : k < ss.length
      · obtain ⟨b', off', rfl, hd⟩ := R'.out k hs
        have hdl := lt_of_cell hd
        have hd' : wr.cell? ⟨b', off' + k, none⟩ = some (.int .i64 (ss.getD k 0)) := by
          rw [hB.cell (p := ⟨b', off' + k, none⟩) (by simp; omega), World.cell?_alloc_lt _ _ ⟨b', off' + k, none⟩ hdl]; exact hd
        clear hd hC hl hB
        go_wp2_with fail
        refine (At_some _ _ _ _ _).mono ?_
        rintro e w1 ⟨rfl, rfl⟩
        go_wp2
        go_roundg k
        case measure => omega
        case rel => exact ⟨(ps[k], ss[k]) :: l, by omega, rfl, D.out.1.push _ _, by rw [List.map_cons, D.out.2.1]; exact (List.drop_eq_getElem_cons hlt).symm, D.out.2.2.alloc hz _⟩
      · clear hC hl hB
        go_wp2_with fail
        refine (At_some _ _ _ _ _).mono ?_
        rintro e w1 ⟨rfl, rfl⟩
        go_wp2
        go_roundg k
        case measure => omega
        case rel => exact ⟨(ps[k], 0) :: l, by omega, rfl, D.out.1.push _ _, by rw [List.map_cons, D.out.2.1]; exact (List.drop_eq_getElem_cons hlt).symm, D.out.2.2.alloc hz _⟩
end Go.Proofs.YtkhhdaekdledoaaDoor
