/- The contracts of the functions on bare codes: fault.Weight and the document's own Weight give 'wt' of the code; the code's Error and the document's own Text give 'txt' of it. -/
import Derived.Test.YtkhhdaekdledoaaDoorFltPure
import Derived.Test.YtkhhdaekdledoaaDoorProg
namespace Go.Proofs.YtkhhdaekdledoaaDoor
open Go.RowKit

set_option maxHeartbeats 1000000 in
theorem weight_any (c : Int) (w : World) :
    Calls Tryd.prog 16 #[.int .i64 c] w fun e w' => e = .returned (.int .i64 (wt c)) ∧ w = w' := by
  go_enter Tryd.func16, Tryd.ntmps16
  go_wp2
  all_goals (go_ret; exact ⟨ret_int (by simp_all [wt]), rfl⟩)

set_option maxHeartbeats 1000000 in
theorem error_any (c : Int) (w : World) :
    Calls Tryd.prog 18 #[.int .i64 c] w fun e w' => e = .returned (.string (txt c)) ∧ w = w' := by
  go_enter Tryd.func18, Tryd.ntmps18
  go_wp2
  all_goals (go_ret; exact ⟨ret_str (by simp_all [txt]), rfl⟩)

set_option maxHeartbeats 4000000 in
theorem refWeight_in (c : Int) (w : World) (h : 0 ≤ c ∧ c ≤ 16) :
    Calls Tryd.prog 17 #[.int .i64 c] w fun e w' => e = .returned (.int .i64 (wt c)) ∧ Below w.heap.size w w' := by
  have hc : c = 0 ∨ c = 1 ∨ c = 2 ∨ c = 3 ∨ c = 4 ∨ c = 5 ∨ c = 6 ∨ c = 7 ∨ c = 8 ∨ c = 9 ∨ c = 10 ∨ c = 11 ∨ c = 12 ∨ c = 13 ∨ c = 14 ∨ c = 15 ∨ c = 16 := by omega
  clear h
  rcases hc with rfl | rfl | rfl | rfl | rfl | rfl | rfl | rfl | rfl | rfl | rfl | rfl | rfl | rfl | rfl | rfl | rfl
  all_goals
    go_enter Tryd.func17, Tryd.ntmps17
    go_wp2
    go_ret
    exact ⟨ret_int (by decide), (Below.refl _ _).alloc (Nat.le_refl _) _⟩
set_option maxHeartbeats 1000000 in
theorem refWeight_out (c : Int) (w : World) (h : c < 0 ∨ 16 < c) :
    Calls Tryd.prog 17 #[.int .i64 c] w fun e w' => e = .returned (.int .i64 (wt c)) ∧ Below w.heap.size w w' := by
  rw [wt_out c (by omega)]
  rcases h with h | h
  · go_enter Tryd.func17, Tryd.ntmps17
    go_wp2
    go_ret
    exact ⟨rfl, (Below.refl _ _).alloc (Nat.le_refl _) _⟩
  · have h' : ¬ c < 0 := by omega
    go_enter Tryd.func17, Tryd.ntmps17
    go_wp2
    go_ret
    exact ⟨rfl, (Below.refl _ _).alloc (Nat.le_refl _) _⟩
theorem refWeight_any (c : Int) (w : World) :
    Calls Tryd.prog 17 #[.int .i64 c] w fun e w' => e = .returned (.int .i64 (wt c)) ∧ Below w.heap.size w w' := by
  by_cases h : 0 ≤ c ∧ c ≤ 16
  · exact refWeight_in c w h
  · exact refWeight_out c w (by omega)

set_option maxHeartbeats 4000000 in
theorem refText_in (c : Int) (w : World) (h : 1 ≤ c ∧ c ≤ 16) :
    Calls Tryd.prog 19 #[.int .i64 c] w fun e w' => e = .returned (.string (txt c)) ∧ Below w.heap.size w w' := by
  have hc : c = 1 ∨ c = 2 ∨ c = 3 ∨ c = 4 ∨ c = 5 ∨ c = 6 ∨ c = 7 ∨ c = 8 ∨ c = 9 ∨ c = 10 ∨ c = 11 ∨ c = 12 ∨ c = 13 ∨ c = 14 ∨ c = 15 ∨ c = 16 := by omega
  clear h
  rcases hc with rfl | rfl | rfl | rfl | rfl | rfl | rfl | rfl | rfl | rfl | rfl | rfl | rfl | rfl | rfl | rfl
  all_goals
    go_enter Tryd.func19, Tryd.ntmps19
    go_wp2
    go_ret
    exact ⟨ret_str (by rfl), (Below.refl _ _).alloc (Nat.le_refl _) _⟩
set_option maxHeartbeats 1000000 in
theorem refText_out (c : Int) (w : World) (h : c < 1 ∨ 16 < c) :
    Calls Tryd.prog 19 #[.int .i64 c] w fun e w' => e = .returned (.string (txt c)) ∧ Below w.heap.size w w' := by
  rw [txt_out c h]
  rcases h with h | h
  · go_enter Tryd.func19, Tryd.ntmps19
    go_wp2
    go_ret
    exact ⟨rfl, (Below.refl _ _).alloc (Nat.le_refl _) _⟩
  · have h' : ¬ c < 1 := by omega
    go_enter Tryd.func19, Tryd.ntmps19
    go_wp2
    go_ret
    exact ⟨rfl, (Below.refl _ _).alloc (Nat.le_refl _) _⟩
theorem refText_any (c : Int) (w : World) :
    Calls Tryd.prog 19 #[.int .i64 c] w fun e w' => e = .returned (.string (txt c)) ∧ Below w.heap.size w w' := by
  by_cases h : 1 ≤ c ∧ c ≤ 16
  · exact refText_in c w h
  · exact refText_out c w (by omega)
end Go.Proofs.YtkhhdaekdledoaaDoor
