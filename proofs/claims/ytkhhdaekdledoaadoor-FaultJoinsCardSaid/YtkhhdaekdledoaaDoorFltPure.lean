/- The plain functions that layer 1's codes have: a code's weight and a code's text, as Lean functions of an integer. No program is named here. -/
import Derived.WalkKit
namespace Go.Proofs.YtkhhdaekdledoaaDoor
/-- A code's weight. -/
def wt (c : Int) : Int :=
  if c = 9 ∨ c = 10 ∨ c = 4 then 5 else if c = 3 ∨ c = 5 ∨ c = 16 then 4 else if c = 11 ∨ c = 13 ∨ c = 12 then 3
  else if c = 6 ∨ c = 7 ∨ c = 15 then 2 else if c = 1 ∨ c = 2 ∨ c = 8 ∨ c = 14 then 1 else 0
theorem wt_bd (c : Int) : 0 ≤ wt c ∧ wt c ≤ 5 := by
  unfold wt; repeat' split
  all_goals omega
theorem wt_out (c : Int) (h : c < 1 ∨ 16 < c) : wt c = 0 := by
  unfold wt; repeat' split
  all_goals omega
/-- A code's text. -/
def txt (c : Int) : ByteArray :=
  if c = 1 then ⟨#[97, 114, 103]⟩ else if c = 2 then ⟨#[114, 97, 110, 103, 101]⟩ else if c = 3 then ⟨#[102, 117, 108, 108]⟩ else if c = 4 then ⟨#[115, 116, 97, 108, 101]⟩
  else if c = 5 then ⟨#[101, 120, 104, 97, 117, 115, 116, 101, 100]⟩ else if c = 6 then ⟨#[110, 111, 110, 101]⟩ else if c = 7 then ⟨#[116, 104, 101, 114, 101]⟩ else if c = 8 then ⟨#[108, 111, 110, 103]⟩
  else if c = 9 then ⟨#[107, 105, 110, 100]⟩ else if c = 10 then ⟨#[99, 104, 97, 105, 110]⟩ else if c = 11 then ⟨#[98, 117, 115, 121]⟩ else if c = 12 then ⟨#[99, 111, 110, 102, 108, 105, 99, 116]⟩
  else if c = 13 then ⟨#[115, 116, 97, 116, 101]⟩ else if c = 14 then ⟨#[108, 105, 110, 101]⟩ else if c = 15 then ⟨#[114, 101, 97, 100, 111, 110, 108, 121]⟩ else if c = 16 then ⟨#[115, 116, 101, 112]⟩
  else ⟨#[101, 114, 114, 111, 114]⟩
theorem txt_out (c : Int) (h : c < 1 ∨ 16 < c) : txt c = ⟨#[101, 114, 114, 111, 114]⟩ := by
  unfold txt; repeat (rw [if_neg (by omega)])
theorem ret_int {k : IntKind} {a b : Int} (h : a = b) : Ending.returned (.int k a) = .returned (.int k b) := by rw [h]
theorem ret_str {a b : ByteArray} (h : a = b) : Ending.returned (.string a) = .returned (.string b) := by rw [h]
end Go.Proofs.YtkhhdaekdledoaaDoor
