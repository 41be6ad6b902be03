/- slices.Clone of rows, of entries, of pages, by contracts. -/
import Derived.Test.YtabchlgbdlgacaaNsFill
namespace Go.Proofs.Ytabchlgbdlgacaa
open Go.RowKit

theorem OwnS.lowN {α : Type} {E : Lay α} {base : Nat} {w w' : World} {v : Value} {xs : List α} (h : OwnS E base w v xs) (hs : Below w.heap.size w w') : OwnS E base w' v xs := h.below hs
set_option maxRecDepth 100000 in
set_option maxHeartbeats 4000000 in
theorem clone_rows (v : Value) (xs : List Rw) (w : World) (hv : SV lRow w v xs) (hl : xs.length ≤ 100000) :
    Calls Try.prog 79 #[v] w fun ev w' => ∃ v', ev = .returned v' ∧ OwnS lRow w.heap.size w' v' xs ∧ Below w.heap.size w w' := by
  obtain ⟨a, cap, rfl, hlc, hcm⟩ := hv.lenform
  cases a with
  | none =>
    have hx : xs = [] := by
      obtain ⟨a', cap', h1, h2, h3, h4, -⟩ := hv
      obtain ⟨rfl, -, rfl⟩ := Value.slice.inj h1
      have := h4 rfl
      exact List.eq_nil_of_length_eq_zero (by omega)
    subst hx
    obtain rfl : cap = 0 := by
      obtain ⟨a', cap', h1, h2, h3, h4, -⟩ := hv
      obtain ⟨-, -, rfl⟩ := Value.slice.inj h1
      exact h4 (Value.slice.inj h1).1.symm
    have hq : ∀ w : World, (Go.binOp BinOp.eql 39 (.slice none 0 0) (.slice none 0 0)).run Try.prog w = .ok (.bool true) w := fun _ => rfl
    go_enter Try.func79, Try.ntmps79
    go_wp2
    go_ret
    exact ⟨_, rfl, OwnS.nil lRow _ _, Below.refl _ _⟩
  | some y =>
    have hq : ∀ w : World, (Go.binOp BinOp.eql 39 (.slice (some y) xs.length cap) (.slice none 0 0)).run Try.prog w = .ok (.bool false) w := fun _ => rfl
    have hb := alloc_below0 w (.cells #[] lRow.ty)
    have O1 := Lib.hid (show OwnS lRow w.heap.size (w.alloc (.cells #[] lRow.ty)) (.slice (some ⟨w.heap.size, 0, none⟩) 0 0) ([] : List Rw) from OwnS.lit lRow w.heap.size w w.heap.size rfl [] (Nat.le_refl _) (by simp))
    have S1 := Lib.hid (hv.below hb)
    have B1 := Lib.hid hb
    have H1 := Lib.hid (show ([] : List Rw).length + xs.length ≤ 100000 by simpa using hl)
    clear hv hl hb
    simp only [lRow] at B1
    go_enter Try.func79, Try.ntmps79
    go_wp2_with (refine wpList_appS lRow 39 Try.underlying39 lRow_known (by decide) (by decide) rfl (.tmp 5) (.tmp 6) rfl w.heap.size rfl rfl O1.out S1.out H1.out B1.out.size ?_; intro v6 w6 ho6 hg6; have O6 := Lib.hid ho6; have B6 := Lib.hid (B1.out.trans ((Kept.of_grown hg6).below (fun k hk => (O1.out.bounds k hk.symm).1) B1.out.size)); clear ho6 hg6)
    go_ret
    exact ⟨_, rfl, by simpa using O6.out, B6.out⟩
set_option maxRecDepth 100000 in
set_option maxHeartbeats 4000000 in
theorem clone_ents (v : Value) (xs : List En) (w : World) (hv : SV lEnt w v xs) (hl : xs.length ≤ 100000) :
    Calls Try.prog 80 #[v] w fun ev w' => ∃ v', ev = .returned v' ∧ OwnS lEnt w.heap.size w' v' xs ∧ Below w.heap.size w w' := by
  obtain ⟨a, cap, rfl, hlc, hcm⟩ := hv.lenform
  cases a with
  | none =>
    have hx : xs = [] := by
      obtain ⟨a', cap', h1, h2, h3, h4, -⟩ := hv
      obtain ⟨rfl, -, rfl⟩ := Value.slice.inj h1
      have := h4 rfl
      exact List.eq_nil_of_length_eq_zero (by omega)
    subst hx
    obtain rfl : cap = 0 := by
      obtain ⟨a', cap', h1, h2, h3, h4, -⟩ := hv
      obtain ⟨-, -, rfl⟩ := Value.slice.inj h1
      exact h4 (Value.slice.inj h1).1.symm
    have hq : ∀ w : World, (Go.binOp BinOp.eql 40 (.slice none 0 0) (.slice none 0 0)).run Try.prog w = .ok (.bool true) w := fun _ => rfl
    go_enter Try.func80, Try.ntmps80
    go_wp2
    go_ret
    exact ⟨_, rfl, OwnS.nil lEnt _ _, Below.refl _ _⟩
  | some y =>
    have hq : ∀ w : World, (Go.binOp BinOp.eql 40 (.slice (some y) xs.length cap) (.slice none 0 0)).run Try.prog w = .ok (.bool false) w := fun _ => rfl
    have hb := alloc_below0 w (.cells #[] lEnt.ty)
    have O1 := Lib.hid (show OwnS lEnt w.heap.size (w.alloc (.cells #[] lEnt.ty)) (.slice (some ⟨w.heap.size, 0, none⟩) 0 0) ([] : List En) from OwnS.lit lEnt w.heap.size w w.heap.size rfl [] (Nat.le_refl _) (by simp))
    have S1 := Lib.hid (hv.below hb)
    have B1 := Lib.hid hb
    have H1 := Lib.hid (show ([] : List En).length + xs.length ≤ 100000 by simpa using hl)
    clear hv hl hb
    simp only [lEnt] at B1
    go_enter Try.func80, Try.ntmps80
    go_wp2_with (refine wpList_appS lEnt 40 Try.underlying40 lEnt_known (by decide) (by decide) rfl (.tmp 5) (.tmp 6) rfl w.heap.size rfl rfl O1.out S1.out H1.out B1.out.size ?_; intro v6 w6 ho6 hg6; have O6 := Lib.hid ho6; have B6 := Lib.hid (B1.out.trans ((Kept.of_grown hg6).below (fun k hk => (O1.out.bounds k hk.symm).1) B1.out.size)); clear ho6 hg6)
    go_ret
    exact ⟨_, rfl, by simpa using O6.out, B6.out⟩
set_option maxRecDepth 100000 in
set_option maxHeartbeats 4000000 in
theorem clone_ints (v : Value) (xs : List Int) (w : World) (hv : SV lInt w v xs) (hl : xs.length ≤ 100000) :
    Calls Try.prog 50 #[v] w fun ev w' => ∃ v', ev = .returned v' ∧ OwnS lInt w.heap.size w' v' xs ∧ Below w.heap.size w w' := by
  obtain ⟨a, cap, rfl, hlc, hcm⟩ := hv.lenform
  cases a with
  | none =>
    have hx : xs = [] := by
      obtain ⟨a', cap', h1, h2, h3, h4, -⟩ := hv
      obtain ⟨rfl, -, rfl⟩ := Value.slice.inj h1
      have := h4 rfl
      exact List.eq_nil_of_length_eq_zero (by omega)
    subst hx
    obtain rfl : cap = 0 := by
      obtain ⟨a', cap', h1, h2, h3, h4, -⟩ := hv
      obtain ⟨-, -, rfl⟩ := Value.slice.inj h1
      exact h4 (Value.slice.inj h1).1.symm
    have hq : ∀ w : World, (Go.binOp BinOp.eql 63 (.slice none 0 0) (.slice none 0 0)).run Try.prog w = .ok (.bool true) w := fun _ => rfl
    go_enter Try.func50, Try.ntmps50
    go_wp2
    go_ret
    exact ⟨_, rfl, OwnS.nil lInt _ _, Below.refl _ _⟩
  | some y =>
    have hq : ∀ w : World, (Go.binOp BinOp.eql 63 (.slice (some y) xs.length cap) (.slice none 0 0)).run Try.prog w = .ok (.bool false) w := fun _ => rfl
    have hb := alloc_below0 w (.cells #[] lInt.ty)
    have O1 := Lib.hid (show OwnS lInt w.heap.size (w.alloc (.cells #[] lInt.ty)) (.slice (some ⟨w.heap.size, 0, none⟩) 0 0) ([] : List Int) from OwnS.lit lInt w.heap.size w w.heap.size rfl [] (Nat.le_refl _) (by simp))
    have S1 := Lib.hid (hv.below hb)
    have B1 := Lib.hid hb
    have H1 := Lib.hid (show ([] : List Int).length + xs.length ≤ 100000 by simpa using hl)
    clear hv hl hb
    simp only [lInt] at B1
    go_enter Try.func50, Try.ntmps50
    go_wp2_with (refine wpList_appS lInt 63 Try.underlying63 lInt_known (by decide) (by decide) rfl (.tmp 5) (.tmp 6) rfl w.heap.size rfl rfl O1.out S1.out H1.out B1.out.size ?_; intro v6 w6 ho6 hg6; have O6 := Lib.hid ho6; have B6 := Lib.hid (B1.out.trans ((Kept.of_grown hg6).below (fun k hk => (O1.out.bounds k hk.symm).1) B1.out.size)); clear ho6 hg6)
    go_ret
    exact ⟨_, rfl, by simpa using O6.out, B6.out⟩
end Go.Proofs.Ytabchlgbdlgacaa
