/- What the document fixes of appends (layer 16): the laws' own awake, by contract. -/
import Derived.Test.YtkbfhpgcjljbbaaCmC
namespace Go.Proofs.Ytkbfhpgcjljbbaa
set_option linter.unusedVariables false
set_option linter.unusedSimpArgs false
open Go.RowKit

def xs1 : List Wr := [(⟨#[97]⟩, ⟨#[49]⟩, false)]
def xs2 : List Wr := [(⟨#[98]⟩, ⟨#[]⟩, false)]
def tb0 : Tb := Tb.new (2 : Int).toNat 9
def tb1 : Tb := tb0.app 0 xs1
def tb2 : Tb := tb1.app 0 xs2
theorem xs1_small : SmallW xs1 := fun x hx => by
  rw [List.mem_singleton.1 (show x ∈ [_] from hx)]; exact ⟨by decide, by decide⟩
theorem xs2_small : SmallW xs2 := fun x hx => by
  rw [List.mem_singleton.1 (show x ∈ [_] from hx)]; exact ⟨by decide, by decide⟩
theorem aw1 : two (tb0.appB 0 xs1) (tb0.appE 0 xs1) = .tuple #[.bool true, .nilIface] := by
  have h1 : tb0.appB 0 xs1 = true := by decide +kernel
  have h2 : tb0.appE 0 xs1 = 0 := by decide +kernel
  rw [h1, h2]; rfl
theorem aw2 : two (tb1.appB 0 xs2) (tb1.appE 0 xs2) = .tuple #[.bool false, .nilIface] := by
  have h1 : tb1.appB 0 xs2 = false := by decide +kernel
  have h2 : tb1.appE 0 xs2 = 0 := by decide +kernel
  rw [h1, h2]; rfl
theorem aw3 : tb2.atE 1 = 0 ∧ tb2.atL 1 = xs1 ∧ tb2.all.length = 1 ∧ tb2.count = 1 ∧ tb0.all.length = 0 ∧ tb1.all.length = 1 := by decide +kernel
theorem off_step {w1 : World} {S S2 : Nat → Prop} {b : Nat} (hb : ¬ S b) (hlt : b < w1.heap.size) (hS : ∀ k, S2 k → S k ∨ w1.heap.size ≤ k) : ¬ S2 b := fun h => (hS b h).elim hb (fun h => Nat.lt_irrefl b (Nat.lt_of_lt_of_le hlt h))
/-- behind a call that changes a table: what began the law is as it was -/
theorem mut_step {n0 : Nat} {w0 w1 w2 : World} {S S2 : Nat → Prop} (G : ∀ k, S k → n0 ≤ k) (B : Below n0 w0 w1) (hn : n0 ≤ w1.heap.size) (hk : Kept (Mt w1 S) w1 w2) (hS : ∀ k, S2 k → S k ∨ w1.heap.size ≤ k) :
    Below n0 w0 w2 ∧ (∀ k, S2 k → n0 ≤ k) ∧ n0 ≤ w2.heap.size :=
  ⟨B.trans (hk.mt.below G hn), fun k h => (hS k h).elim (G k) (fun h => Nat.le_trans hn h), Nat.le_trans hn hk.size⟩
set_option maxRecDepth 100000 in
set_option maxHeartbeats 4000000 in
theorem awake16 (C : CmT) (w : World) : Calls Try.prog 9 #[] w fun ev w' => ev = .returned (.bool true) ∧ Below w.heap.size w w' := by
  go_enter Try.func9, Try.ntmps9
  go_wp2_with fail
  refine (C.new 2 9 _ (by decide)).mono ?_
  rintro ev w1 ⟨a, S1, rfl, hI, hS, hs⟩
  have b1 := alloc_below0 w1 (.cells #[.string ⟨#[97]⟩, .string ⟨#[49]⟩, .bool false] 41)
  have M1 := Lib.hid (show Below w.heap.size w (w1.alloc (.cells #[.string ⟨#[97]⟩, .string ⟨#[49]⟩, .bool false] 41)) ∧ (∀ k, S1 k → w.heap.size ≤ k) ∧ w.heap.size ≤ (w1.alloc (.cells #[.string ⟨#[97]⟩, .string ⟨#[49]⟩, .bool false] 41)).heap.size from ⟨hs.trans (b1.mono hs.size), hS, Nat.le_trans hs.size b1.size⟩)
  have I1 := Lib.hid (C.step hI b1)
  have X1 := Lib.hid (show WrV lPw (w1.alloc (.cells #[.string ⟨#[97]⟩, .string ⟨#[49]⟩, .bool false] 41)) (.slice (some ⟨w1.heap.size, 0, none⟩) 1 1) xs1 from ⟨(OwnS.lit lPw w1.heap.size w1 w1.heap.size rfl xs1 (Nat.le_refl _) (by decide)).sv, xs1_small⟩)
  clear hI hS hs b1
  go_wp2_with fail
  refine (C.append a S1 tb0 0 _ xs1 _ I1.out (by decide) X1.out (by decide)).mono ?_
  rintro ev w2 ⟨S2, rfl, hI, hk, hS⟩
  rw [aw1]
  have m2 := mut_step M1.out.2.1 M1.out.1 M1.out.2.2 hk hS
  have b2 := alloc_below0 w2 (.cells #[.string ⟨#[98]⟩, .string ⟨#[]⟩, .bool false] 41)
  have M2 := Lib.hid (show Below w.heap.size w (w2.alloc (.cells #[.string ⟨#[98]⟩, .string ⟨#[]⟩, .bool false] 41)) ∧ (∀ k, S2 k → w.heap.size ≤ k) ∧ w.heap.size ≤ (w2.alloc (.cells #[.string ⟨#[98]⟩, .string ⟨#[]⟩, .bool false] 41)).heap.size from ⟨m2.1.trans (b2.mono m2.2.2), m2.2.1, Nat.le_trans m2.2.2 b2.size⟩)
  have I2 := Lib.hid (C.step hI b2)
  have X2 := Lib.hid (show WrV lPw (w2.alloc (.cells #[.string ⟨#[98]⟩, .string ⟨#[]⟩, .bool false] 41)) (.slice (some ⟨w2.heap.size, 0, none⟩) 1 1) xs2 from ⟨(OwnS.lit lPw w2.heap.size w2 w2.heap.size rfl xs2 (Nat.le_refl _) (by decide)).sv, xs2_small⟩)
  clear hI hS hk b2 m2 M1 I1 X1
  go_wp2_with fail
  refine (C.append a S2 tb1 0 _ xs2 _ I2.out (by decide) X2.out (by decide)).mono ?_
  rintro ev w3 ⟨S3, rfl, hI, hk, hS⟩
  rw [aw2]
  have M3 := Lib.hid (mut_step M2.out.2.1 M2.out.1 M2.out.2.2 hk hS)
  have I3 := Lib.hid (show C.Inv w3 a S3 tb2 from hI)
  clear hI hS hk M2 I2 X2
  go_wp2_with fail
  refine (C.at_ a S3 tb2 1 _ I3.out (by rw [aw3.2.2.1]; decide)).mono ?_
  rintro ev w4 ⟨v, rfl, hv, hs⟩
  rw [aw3.2.1] at hv
  rw [aw3.1]
  obtain ⟨la, lc, rfl, -, -⟩ := hv.lenN (n := 1) rfl
  have M4 := Lib.hid (show Below w.heap.size w w4 ∧ w.heap.size ≤ w4.heap.size from ⟨M3.out.1.trans (hs.mono M3.out.2.2), Nat.le_trans M3.out.2.2 hs.size⟩)
  have I4 := Lib.hid (C.step I3.out hs)
  rw [show errV 0 = .nilIface from rfl]
  clear hv hs M3 I3
  go_wp2_with fail
  refine (C.last a S3 tb2 _ I4.out).mono ?_
  rintro ev w5 ⟨rfl, hs⟩
  rw [aw3.2.2.1]
  have M5 := Lib.hid (show Below w.heap.size w w5 ∧ w.heap.size ≤ w5.heap.size from ⟨M4.out.1.trans (hs.mono M4.out.2), Nat.le_trans M4.out.2 hs.size⟩)
  have I5 := Lib.hid (C.step I4.out hs)
  clear hs M4 I4
  go_wp2_with fail
  refine (C.count a S3 tb2 _ I5.out (by rw [aw3.2.2.1]; decide)).mono ?_
  rintro ev w6 ⟨rfl, hs⟩
  rw [aw3.2.2.2.1]
  have M6 := Lib.hid (M5.out.1.trans (hs.mono M5.out.2))
  clear hs M5 I5
  go_wp2
  go_ret
  exact ⟨rfl, M6.out⟩
end Go.Proofs.Ytkbfhpgcjljbbaa
