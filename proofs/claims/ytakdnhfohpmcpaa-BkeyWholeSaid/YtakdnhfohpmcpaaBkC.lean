/- What package bkey owes (layer 2), as one bundle of contracts; out of it the law's own 'awake'. -/
import Derived.Test.YtakdnhfohpmcpaaBkFew
namespace Go.Proofs.Ytakdnhfohpmcpaa
open Go.RowKit

structure BkC : Prop where
  right : ∀ (a : ByteArray) (w : World), a.size ≤ maxLen → Calls Try.prog 17 #[.string a] w fun ev w' => ev = .returned (.bool (rgt a.size)) ∧ Below w.heap.size w w'
  common : ∀ (a b : ByteArray) (w : World), a.size ≤ maxLen → b.size ≤ maxLen → Calls Try.prog 14 #[.string a, .string b] w fun ev w' => ev = .returned (.int .i64 (com a.data.toList b.data.toList)) ∧ Below w.heap.size w w'
  compare : ∀ (a b : ByteArray) (w : World), a.size ≤ maxLen → b.size ≤ maxLen → Calls Try.prog 15 #[.string a, .string b] w fun ev w' => ev = .returned (.int .i64 (cmp a.data.toList b.data.toList)) ∧ Below w.heap.size w w'
  betweenYes : ∀ (a b : ByteArray) (w : World), a.size ≤ maxLen → b.size ≤ maxLen → bef a.data.toList b.data.toList = true → Calls Try.prog 19 #[.string a, .string b] w fun ev w' => ev = .returned (.tuple #[.string (btw a b), .nilIface]) ∧ Below w.heap.size w w'
  betweenNo : ∀ (a b : ByteArray) (w : World), a.size ≤ maxLen → b.size ≤ maxLen → bef a.data.toList b.data.toList = false → Calls Try.prog 19 #[.string a, .string b] w fun ev w' => ev = .returned (.tuple #[.string ⟨#[]⟩, .iface 35 (.int .i64 1)]) ∧ Below w.heap.size w w'
  nextArg : ∀ (a : ByteArray) (w : World), a.size ≤ maxLen → rgt a.size = false → Calls Try.prog 22 #[.string a] w fun ev w' => ev = .returned (.tuple #[.string ⟨#[]⟩, .iface 35 (.int .i64 1)]) ∧ Below w.heap.size w w'
  nextShort : ∀ (a : ByteArray) (w : World), 0 < a.size → a.size < 16 → Calls Try.prog 22 #[.string a] w fun ev w' => ev = .returned (.tuple #[.string (a ++ ⟨#[0]⟩), .nilIface]) ∧ Below w.heap.size w w'
  nextLong : ∀ (a s : ByteArray) (w : World), a.size = 16 → nxtAt a 16 = some s → Calls Try.prog 22 #[.string a] w fun ev w' => ev = .returned (.tuple #[.string s, .nilIface]) ∧ Below w.heap.size w w'
  nextNone : ∀ (a : ByteArray) (w : World), a.size = 16 → nxtAt a 16 = none → Calls Try.prog 22 #[.string a] w fun ev w' => ev = .returned (.tuple #[.string ⟨#[]⟩, .iface 35 (.int .i64 6)]) ∧ Below w.heap.size w w'
  inside : ∀ (low high key : ByteArray) (unb : Bool) (w : World), low.size ≤ maxLen → high.size ≤ maxLen → key.size ≤ maxLen → Calls Try.prog 24 #[.string low, .string high, .bool unb, .string key] w fun ev w' => ev = .returned (.bool (inn low.data.toList high.data.toList unb key.data.toList)) ∧ Below w.heap.size w w'

set_option maxHeartbeats 2000000 in
theorem awake_of (C : BkC) (w : World) :
    Calls Try.prog 13 #[] w fun ev w' => ev = .returned (.bool true) ∧ Below w.heap.size w w' := by
  have C0 : Aside BkC := C
  clear C
  go_enter Try.func13, Try.ntmps13
  go_wp2_with fail
  refine (C0.out.betweenYes _ _ _ (by decide) (by decide) (by decide +kernel)).mono ?_
  rintro ev w1 ⟨rfl, hs⟩
  have e1 : btw ⟨#[97, 112, 112, 108, 101]⟩ ⟨#[97, 112, 114, 105, 99, 111, 116]⟩ = ⟨#[97, 112, 114]⟩ := by decide +kernel
  rw [e1]
  have B : Aside (Below w.heap.size w w1) := hs
  clear hs e1
  go_wp2_with fail
  refine (C0.out.nextShort _ _ (by decide) (by decide)).mono ?_
  rintro ev w2 ⟨rfl, hs⟩
  have e2 : (⟨#[97]⟩ : ByteArray) ++ ⟨#[0]⟩ = ⟨#[97, 0]⟩ := by decide +kernel
  rw [e2]
  have D : Aside (Below w.heap.size w w2) := B.out.trans (hs.mono B.out.size)
  clear hs B e2
  go_wp2_with fail
  refine (C0.out.compare _ _ _ (by decide) (by decide)).mono ?_
  rintro ev w3 ⟨rfl, hs⟩
  have e3 : cmp (⟨#[97]⟩ : ByteArray).data.toList (⟨#[98]⟩ : ByteArray).data.toList = -1 := by decide +kernel
  rw [e3]
  have E : Aside (Below w.heap.size w w3) := D.out.trans (hs.mono D.out.size)
  clear hs D e3
  go_wp2
  go_ret
  exact ⟨rfl, E.out⟩
end Go.Proofs.Ytakdnhfohpmcpaa
