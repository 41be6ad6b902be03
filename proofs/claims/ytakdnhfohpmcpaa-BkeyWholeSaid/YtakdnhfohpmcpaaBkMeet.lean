/- Package bkey's Meet (and its lowerEnd), by contracts. -/
import Derived.Test.YtakdnhfohpmcpaaBkCodeX
import Derived.Lib.MinMaxS
namespace Go.Proofs.Ytakdnhfohpmcpaa
open Go.RowKit

theorem lt_bef : ∀ a b : List UInt8, (a < b) ↔ bef a b = true
  | a, [] => by simp [bef_nil]
  | [], y :: b => by simp [nil_bef]
  | x :: a, y :: b => by
    rw [bef_cons, List.cons_lt_cons_iff, lt_bef a b]
    by_cases e : x = y
    · subst e
      rw [if_pos rfl]
      exact ⟨fun h => h.elim (fun k => absurd k (UInt8.lt_irrefl x)) (·.2), fun h => .inr ⟨rfl, h⟩⟩
    · rw [if_neg e]
      rw [UInt8.lt_iff_toNat_lt]
      simp [e]

/-- a span by value -/
def spn (l h : ByteArray) (u : Bool) : Value := .agg #[.string l, .string h, .bool u]
/-- the greater one of two texts; the lesser one -/
def maxB (x y : ByteArray) : ByteArray := if bef x.data.toList y.data.toList then y else x
def minB (x y : ByteArray) : ByteArray := if bef y.data.toList x.data.toList then y else x
theorem maxS_eq (x y : ByteArray) : Lib.maxS x y = maxB x y := by
  unfold Lib.maxS maxB
  by_cases h : bef x.data.toList y.data.toList = true
  · rw [if_pos h, if_pos ((lt_bef _ _).2 h)]
  · rw [if_neg h, if_neg (fun k => h ((lt_bef _ _).1 k))]
theorem minS_eq (x y : ByteArray) : Lib.minS x y = minB x y := by
  unfold Lib.minS minB
  by_cases h : bef y.data.toList x.data.toList = true
  · rw [if_pos h, if_neg]
    rintro (k | k)
    · have := bef_asymm _ _ ((lt_bef _ _).1 k); rw [this] at h; cases h
    · rw [k, bef_irr] at h; cases h
  · rw [if_neg h, if_pos]
    by_cases k : bef x.data.toList y.data.toList = true
    · exact .inl ((lt_bef _ _).2 k)
    · exact .inr (bef_total _ _ (by simpa using k) (by simpa using h))
/-- where what two spans have in common ends, if one of them has an end -/
def endB (ah bh : ByteArray) (au bu : Bool) : ByteArray := if au then bh else if bu then ah else minB ah bh
theorem lowerEnd_any (al ah bl bh : ByteArray) (au bu : Bool) (w : World) :
    Calls Try.prog 32 #[.agg #[.string al, .string ah, .bool au], .agg #[.string bl, .string bh, .bool bu]] w fun ev w' => ev = .returned (.string (endB ah bh au bu)) ∧
      w' = (w.alloc (.cells #[.string al, .string ah, .bool au] 39)).alloc (.cells #[.string bl, .string bh, .bool bu] 39) := by
  have hmn : ∀ (w : World) (ts : Array TypeId) (t : TypeId) (x y : ByteArray), (Builtin.min_ ts t #[.string x, .string y]).run Try.prog w = .ok (.string (minB x y)) w := fun w ts t x y => by rw [Lib.run_min_strs, minS_eq]
  cases au with
  | true =>
    go_enter Try.func32, Try.ntmps32
    go_wp2
    go_ret
    exact ⟨rfl, rfl⟩
  | false =>
    cases bu with
    | true =>
      go_enter Try.func32, Try.ntmps32
      go_wp2
      go_ret
      exact ⟨rfl, rfl⟩
    | false =>
      go_enter Try.func32, Try.ntmps32
      go_wp2
      go_ret
      exact ⟨rfl, rfl⟩
/-- what two spans have in common: its ends, whether it is without one, and whether it is there -/
def meetF (al ah bl bh : ByteArray) (au bu : Bool) : ByteArray × ByteArray × Bool × Bool :=
  if au && bu then (maxB al bl, ⟨#[]⟩, true, true)
  else if bef (maxB al bl).data.toList (endB ah bh au bu).data.toList then (maxB al bl, endB ah bh au bu, false, true) else (⟨#[]⟩, ⟨#[]⟩, false, false)
theorem meet_whole (al ah bl bh : ByteArray) (w : World) :
    Calls Try.prog 26 #[spn al ah true, spn bl bh true] w fun ev w' => ev = .returned (.tuple #[spn (maxB al bl) ⟨#[]⟩ true, .bool true]) ∧ Below w.heap.size w w' := by
  have hmx : ∀ (w : World) (ts : Array TypeId) (t : TypeId) (x y : ByteArray), (Builtin.max_ ts t #[.string x, .string y]).run Try.prog w = .ok (.string (maxB x y)) w := fun w ts t x y => by rw [Lib.run_max_strs, maxS_eq]
  unfold spn
  go_enter Try.func26, Try.ntmps26
  go_wp2
  (try simp only [Exit.inBlock, Exit.then])
  refine bodyPost_ret (v := .tuple #[spn (maxB al bl) ⟨#[]⟩ true, .bool true]) ?_ rfl ⟨rfl, ?_⟩
  · rw [results_cell_tmp rfl]
    unfold spn
    go_simp
  · (repeat' (first | exact Below.refl _ _ | refine Below.alloc ?_ (by simp <;> omega) _))
set_option maxHeartbeats 2000000 in
theorem meet_part (al ah bl bh : ByteArray) (au bu : Bool) (x : Int) (hab : (au && bu) = false) (hx : cmp (maxB al bl).data.toList (endB ah bh au bu).data.toList = x) (w : World) :
    Calls Try.prog 26 #[spn al ah au, spn bl bh bu] w fun ev w' => (0 ≤ x ∧ ev = .returned (.tuple #[spn ⟨#[]⟩ ⟨#[]⟩ false, .bool false]) ∨ x < 0 ∧ ev = .returned (.tuple #[spn (maxB al bl) (endB ah bh au bu) false, .bool true])) ∧ Below w.heap.size w w' := by
  have hmx : ∀ (w : World) (ts : Array TypeId) (t : TypeId) (x y : ByteArray), (Builtin.max_ ts t #[.string x, .string y]).run Try.prog w = .ok (.string (maxB x y)) w := fun w ts t x y => by rw [Lib.run_max_strs, maxS_eq]
  have P : Aside (∀ w, Calls Try.prog 32 #[.agg #[.string al, .string ah, .bool au], .agg #[.string bl, .string bh, .bool bu]] w fun ev w' => ev = .returned (.string (endB ah bh au bu)) ∧
      w' = (w.alloc (.cells #[.string al, .string ah, .bool au] 39)).alloc (.cells #[.string bl, .string bh, .bool bu] 39)) := lowerEnd_any al ah bl bh au bu
  have X := Lib.hid hx
  clear hx
  generalize endB ah bh au bu = hi at *
  unfold spn
  by_cases hx0 : 0 ≤ x
  · have hl : Aside (0 ≤ x) := hx0
    cases au with
    | true =>
      cases bu with
      | true => cases hab
      | false =>
        clear hab
        go_enter Try.func26, Try.ntmps26
        go_wp2_with fail
        refine (P.out _).mono ?_
        rintro ev w1 ⟨rfl, rfl⟩
        go_wp2_with fail
        refine (compare_any _ _ _).mono ?_
        rintro ev w2 ⟨rfl, rfl⟩
        rw [X.out]
        go_wp2
        (try simp only [Exit.inBlock, Exit.then])
        refine bodyPost_ret (v := .tuple #[.agg #[.string ⟨#[]⟩, .string ⟨#[]⟩, .bool false], .bool false]) ?_ rfl ⟨.inl ⟨hl.out, rfl⟩, ?_⟩
        · rw [results_cell_tmp rfl]
          go_simp
        · (repeat' (first | exact Below.refl _ _ | refine Below.alloc ?_ (by simp <;> omega) _))
    | false =>
      cases bu with
      | true =>
        clear hab
        go_enter Try.func26, Try.ntmps26
        go_wp2_with fail
        refine (P.out _).mono ?_
        rintro ev w1 ⟨rfl, rfl⟩
        go_wp2_with fail
        refine (compare_any _ _ _).mono ?_
        rintro ev w2 ⟨rfl, rfl⟩
        rw [X.out]
        go_wp2
        (try simp only [Exit.inBlock, Exit.then])
        refine bodyPost_ret (v := .tuple #[.agg #[.string ⟨#[]⟩, .string ⟨#[]⟩, .bool false], .bool false]) ?_ rfl ⟨.inl ⟨hl.out, rfl⟩, ?_⟩
        · rw [results_cell_tmp rfl]
          go_simp
        · (repeat' (first | exact Below.refl _ _ | refine Below.alloc ?_ (by simp <;> omega) _))
      | false =>
        clear hab
        go_enter Try.func26, Try.ntmps26
        go_wp2_with fail
        refine (P.out _).mono ?_
        rintro ev w1 ⟨rfl, rfl⟩
        go_wp2_with fail
        refine (compare_any _ _ _).mono ?_
        rintro ev w2 ⟨rfl, rfl⟩
        rw [X.out]
        go_wp2
        (try simp only [Exit.inBlock, Exit.then])
        refine bodyPost_ret (v := .tuple #[.agg #[.string ⟨#[]⟩, .string ⟨#[]⟩, .bool false], .bool false]) ?_ rfl ⟨.inl ⟨hl.out, rfl⟩, ?_⟩
        · rw [results_cell_tmp rfl]
          go_simp
        · (repeat' (first | exact Below.refl _ _ | refine Below.alloc ?_ (by simp <;> omega) _))
  · have hl : Aside (x < 0) := by show _ < _; omega
    cases au with
    | true =>
      cases bu with
      | true => cases hab
      | false =>
        clear hab
        go_enter Try.func26, Try.ntmps26
        go_wp2_with fail
        refine (P.out _).mono ?_
        rintro ev w1 ⟨rfl, rfl⟩
        go_wp2_with fail
        refine (compare_any _ _ _).mono ?_
        rintro ev w2 ⟨rfl, rfl⟩
        rw [X.out]
        go_wp2
        (try simp only [Exit.inBlock, Exit.then])
        refine bodyPost_ret (v := .tuple #[.agg #[.string (maxB al bl), .string hi, .bool false], .bool true]) ?_ rfl ⟨.inr ⟨hl.out, rfl⟩, ?_⟩
        · rw [results_cell_tmp rfl]
          go_simp
        · (repeat' (first | exact Below.refl _ _ | refine Below.alloc ?_ (by simp <;> omega) _))
    | false =>
      cases bu with
      | true =>
        clear hab
        go_enter Try.func26, Try.ntmps26
        go_wp2_with fail
        refine (P.out _).mono ?_
        rintro ev w1 ⟨rfl, rfl⟩
        go_wp2_with fail
        refine (compare_any _ _ _).mono ?_
        rintro ev w2 ⟨rfl, rfl⟩
        rw [X.out]
        go_wp2
        (try simp only [Exit.inBlock, Exit.then])
        refine bodyPost_ret (v := .tuple #[.agg #[.string (maxB al bl), .string hi, .bool false], .bool true]) ?_ rfl ⟨.inr ⟨hl.out, rfl⟩, ?_⟩
        · rw [results_cell_tmp rfl]
          go_simp
        · (repeat' (first | exact Below.refl _ _ | refine Below.alloc ?_ (by simp <;> omega) _))
      | false =>
        clear hab
        go_enter Try.func26, Try.ntmps26
        go_wp2_with fail
        refine (P.out _).mono ?_
        rintro ev w1 ⟨rfl, rfl⟩
        go_wp2_with fail
        refine (compare_any _ _ _).mono ?_
        rintro ev w2 ⟨rfl, rfl⟩
        rw [X.out]
        go_wp2
        (try simp only [Exit.inBlock, Exit.then])
        refine bodyPost_ret (v := .tuple #[.agg #[.string (maxB al bl), .string hi, .bool false], .bool true]) ?_ rfl ⟨.inr ⟨hl.out, rfl⟩, ?_⟩
        · rw [results_cell_tmp rfl]
          go_simp
        · (repeat' (first | exact Below.refl _ _ | refine Below.alloc ?_ (by simp <;> omega) _))

/-- what package bkey owes of spans -/
structure BkM : Prop where
  whole : ∀ (al ah bl bh : ByteArray) (w : World), Calls Try.prog 26 #[spn al ah true, spn bl bh true] w fun ev w' => ev = .returned (.tuple #[spn (maxB al bl) ⟨#[]⟩ true, .bool true]) ∧ Below w.heap.size w w'
  some : ∀ (al ah bl bh : ByteArray) (au bu : Bool) (w : World), (au && bu) = false → bef (maxB al bl).data.toList (endB ah bh au bu).data.toList = true →
    Calls Try.prog 26 #[spn al ah au, spn bl bh bu] w fun ev w' => ev = .returned (.tuple #[spn (maxB al bl) (endB ah bh au bu) false, .bool true]) ∧ Below w.heap.size w w'
  none : ∀ (al ah bl bh : ByteArray) (au bu : Bool) (w : World), (au && bu) = false → bef (maxB al bl).data.toList (endB ah bh au bu).data.toList = false →
    Calls Try.prog 26 #[spn al ah au, spn bl bh bu] w fun ev w' => ev = .returned (.tuple #[spn ⟨#[]⟩ ⟨#[]⟩ false, .bool false]) ∧ Below w.heap.size w w'
theorem bkm : BkM where
  whole al ah bl bh w := meet_whole al ah bl bh w
  some al ah bl bh au bu w hab h := (meet_part al ah bl bh au bu _ hab rfl w).mono fun ev w' ⟨h1, h2⟩ => ⟨h1.elim (fun k => absurd ((cmp_neg_iff _ _).2 h) (by omega)) (·.2), h2⟩
  none al ah bl bh au bu w hab h := (meet_part al ah bl bh au bu _ hab rfl w).mono fun ev w' ⟨h1, h2⟩ => ⟨h1.elim (·.2) (fun k => by rw [(cmp_neg_iff _ _).1 k.1] at h; cases h), h2⟩
end Go.Proofs.Ytakdnhfohpmcpaa
