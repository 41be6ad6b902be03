/- What package commits owes (layer 16), shown of the landed code. -/
import Derived.Test.YtkbfhpgcjljbbaaCmTrim
import Derived.Test.YtkbfhpgcjljbbaaCmCopy
import Derived.Test.YtkbfhpgcjljbbaaCmOv
import Derived.Test.YtkbfhpgcjljbbaaCmFnd
import Derived.Test.YtkbfhpgcjljbbaaCmCls
namespace Go.Proofs.Ytkbfhpgcjljbbaa
set_option linter.unusedVariables false
set_option linter.unusedSimpArgs false
open Go.RowKit Go.Maps

set_option maxRecDepth 100000 in
set_option maxHeartbeats 4000000 in
theorem nilHas16 (k : Int) (w : World) : Calls Try.prog 42 #[.pointer none, .int .i64 k] w fun ev w' => ev = .returned (.bool false) ∧ Below w.heap.size w w' := by
  have B0 := Lib.hid (Below.refl w.heap.size w)
  go_enter Try.func42, Try.ntmps42
  go_wp2
  go_ret
  exact ⟨rfl, B0.out⟩
set_option maxRecDepth 100000 in
set_option maxHeartbeats 4000000 in
theorem nilLast16 (w : World) : Calls Try.prog 18 #[.pointer none] w fun ev w' => ev = .returned (.int .i64 0) ∧ Below w.heap.size w w' := by
  have B0 := Lib.hid (Below.refl w.heap.size w)
  go_enter Try.func18, Try.ntmps18
  go_wp2
  go_ret
  exact ⟨rfl, B0.out⟩
set_option maxRecDepth 100000 in
set_option maxHeartbeats 4000000 in
theorem nilBase16 (w : World) : Calls Try.prog 31 #[.pointer none] w fun ev w' => ev = .returned (.int .i64 0) ∧ Below w.heap.size w w' := by
  have B0 := Lib.hid (Below.refl w.heap.size w)
  go_enter Try.func31, Try.ntmps31
  go_wp2
  go_ret
  exact ⟨rfl, B0.out⟩
set_option maxRecDepth 100000 in
set_option maxHeartbeats 4000000 in
theorem nilCount16 (w : World) : Calls Try.prog 32 #[.pointer none] w fun ev w' => ev = .returned (.int .i64 0) ∧ Below w.heap.size w w' := by
  have B0 := Lib.hid (Below.refl w.heap.size w)
  go_enter Try.func32, Try.ntmps32
  go_wp2
  go_ret
  exact ⟨rfl, B0.out⟩
set_option maxRecDepth 100000 in
set_option maxHeartbeats 4000000 in
theorem nilAt16 (n : Int) (w : World) : Calls Try.prog 26 #[.pointer none, .int .i64 n] w fun ev w' => ∃ v', ev = .returned (.tuple #[v', errV 1]) ∧ SV lPw w' v' [] ∧ Below w.heap.size w w' := by
  have B0 := Lib.hid (Below.refl w.heap.size w)
  have E := Lib.hid (show errV 1 = .iface 67 (.int .i64 1) from rfl)
  go_enter Try.func26, Try.ntmps26
  go_wp2
  go_ret2
  rw [E.out]
  exact ⟨_, rfl, SV.nil _ _, B0.out⟩
set_option maxRecDepth 100000 in
set_option maxHeartbeats 4000000 in
theorem nilAppend16 (n : Int) (v : Value) (xs : List Wr) (w : World) (hv : WrV lPw w v xs) : Calls Try.prog 15 #[.pointer none, .int .i64 n, v] w fun ev w' => ev = .returned (two false 1) ∧ Below w.heap.size w w' := by
  obtain ⟨a, cap, rfl, hlc, hcm⟩ := hv.1.lenform
  have B0 := Lib.hid (Below.refl w.heap.size w)
  have E := Lib.hid (show two false 1 = .tuple #[.bool false, .iface 67 (.int .i64 1)] from rfl)
  clear hv
  go_enter Try.func15, Try.ntmps15
  go_wp2
  go_ret2
  rw [E.out]
  exact ⟨rfl, B0.out⟩
set_option maxRecDepth 100000 in
set_option maxHeartbeats 4000000 in
theorem nilMark16 (k n : Int) (w : World) : Calls Try.prog 29 #[.pointer none, .int .i64 k, .int .i64 n] w fun ev w' => ev = .returned (errV 1) ∧ Below w.heap.size w w' := by
  have E := Lib.hid (show errV 1 = .iface 67 (.int .i64 1) from rfl)
  have B0 := Lib.hid (Below.refl w.heap.size w)
  go_enter Try.func29, Try.ntmps29
  go_wp2_with fail
  refine (nilHas16 _ _).mono ?_
  rintro ev w1 ⟨rfl, hs⟩
  have B := Lib.hid hs
  clear hs
  go_wp2
  go_ret
  rw [E.out]
  exact ⟨rfl, B.out⟩
set_option maxRecDepth 100000 in
set_option maxHeartbeats 4000000 in
theorem nilMarked16 (k : Int) (w : World) : Calls Try.prog 27 #[.pointer none, .int .i64 k] w fun ev w' => ev = .returned (.tuple #[.int .i64 (-1), errV 1]) ∧ Below w.heap.size w w' := by
  have E := Lib.hid (show errV 1 = .iface 67 (.int .i64 1) from rfl)
  have B0 := Lib.hid (Below.refl w.heap.size w)
  go_enter Try.func27, Try.ntmps27
  go_wp2_with fail
  refine (nilHas16 _ _).mono ?_
  rintro ev w1 ⟨rfl, hs⟩
  have B := Lib.hid hs
  clear hs
  go_wp2
  go_ret2
  rw [E.out]
  exact ⟨rfl, B.out⟩
set_option maxRecDepth 100000 in
set_option maxHeartbeats 4000000 in
theorem nilGrab16 (k : Int) (w : World) : Calls Try.prog 16 #[.pointer none, .int .i64 k] w fun ev w' => ev = .returned (two false 1) ∧ Below w.heap.size w w' := by
  have E := Lib.hid (show two false 1 = .tuple #[.bool false, .iface 67 (.int .i64 1)] from rfl)
  have B0 := Lib.hid (Below.refl w.heap.size w)
  go_enter Try.func16, Try.ntmps16
  go_wp2_with fail
  refine (nilHas16 _ _).mono ?_
  rintro ev w1 ⟨rfl, hs⟩
  have B := Lib.hid hs
  clear hs
  go_wp2
  go_ret2
  rw [E.out]
  exact ⟨rfl, B.out⟩
set_option maxRecDepth 100000 in
set_option maxHeartbeats 4000000 in
theorem nilYield16 (k : Int) (w : World) : Calls Try.prog 17 #[.pointer none, .int .i64 k] w fun ev w' => ev = .returned (two false 1) ∧ Below w.heap.size w w' := by
  have E := Lib.hid (show two false 1 = .tuple #[.bool false, .iface 67 (.int .i64 1)] from rfl)
  have B0 := Lib.hid (Below.refl w.heap.size w)
  go_enter Try.func17, Try.ntmps17
  go_wp2_with fail
  refine (nilHas16 _ _).mono ?_
  rintro ev w1 ⟨rfl, hs⟩
  have B := Lib.hid hs
  clear hs
  go_wp2
  go_ret2
  rw [E.out]
  exact ⟨rfl, B.out⟩
set_option maxRecDepth 100000 in
set_option maxHeartbeats 4000000 in
theorem nilAdvance16 (b : Int) (w : World) : Calls Try.prog 28 #[.pointer none, .int .i64 b] w fun ev w' => ev = .returned (two false 1) ∧ Below w.heap.size w w' := by
  have E := Lib.hid (show two false 1 = .tuple #[.bool false, .iface 67 (.int .i64 1)] from rfl)
  have B0 := Lib.hid (Below.refl w.heap.size w)
  go_enter Try.func28, Try.ntmps28
  go_wp2
  go_ret2
  rw [E.out]
  exact ⟨rfl, B0.out⟩
set_option maxRecDepth 100000 in
set_option maxHeartbeats 4000000 in
theorem nilTrim16 (n : Int) (w : World) : Calls Try.prog 33 #[.pointer none, .int .i64 n] w fun ev w' => ev = .returned (.int .i64 0) ∧ Below w.heap.size w w' := by
  have B0 := Lib.hid (Below.refl w.heap.size w)
  go_enter Try.func33, Try.ntmps33
  go_wp2
  go_ret
  exact ⟨rfl, B0.out⟩
set_option maxRecDepth 100000 in
set_option maxHeartbeats 4000000 in
theorem nilCopy16 (w : World) : Calls Try.prog 34 #[.pointer none] w fun ev w' => ev = .returned (.pointer none) ∧ Below w.heap.size w w' := by
  have B0 := Lib.hid (Below.refl w.heap.size w)
  go_enter Try.func34, Try.ntmps34
  go_wp2
  go_ret
  exact ⟨rfl, B0.out⟩
theorem cmn : CmN where
  last := nilLast16
  base := nilBase16
  count := nilCount16
  at_ := nilAt16
  append n v xs w hv _ := nilAppend16 n v xs w hv
  mark := nilMark16
  marked := nilMarked16
  grab := nilGrab16
  yield_ := nilYield16
  advance := nilAdvance16
  trim := nilTrim16
  copy := nilCopy16
def cmt : CmT where
  Inv := InvT
  keep := InvT.keep
  foot := fun h => let ⟨_, _, _, _, _, _, q⟩ := h; q.lt
  ok := fun h => let ⟨_, _, _, _, _, _, q⟩ := h; q.ok
  new := new16
  newNo := new16no
  last := by rintro a S t w ⟨b, cm, mm, d, V, rfl, q⟩; exact last16 w b cm mm S t d V q
  base := by rintro a S t w ⟨b, cm, mm, d, V, rfl, q⟩; exact base16 w b cm mm S t d V q
  count := by
    rintro a S t w ⟨b, cm, mm, d, V, rfl, q⟩ _
    have e : t.count = t.all.length - d := by unfold Tb.count; rw [q.drp, countB_dropL]
    rw [e]
    exact count16 w b cm mm S t d V q
  at_ := by rintro a S t n w ⟨b, cm, mm, d, V, rfl, q⟩ hl; exact at16 w b cm mm S t d V q n hl
  append := by rintro a S t n v xs w ⟨b, cm, mm, d, V, rfl, q⟩ hl hv hx; exact append16 w b cm mm S t d V q n v xs hl hv hx
  mark := by rintro a S t k n w ⟨b, cm, mm, d, V, rfl, q⟩ hn; exact mark16 w b cm mm S t d V q k n hn
  marked := by rintro a S t k w ⟨b, cm, mm, d, V, rfl, q⟩; exact marked16 w b cm mm S t d V q k
  grab := by rintro a S t k w ⟨b, cm, mm, d, V, rfl, q⟩; exact grab16 w b cm mm S t d V q k
  yield_ := by rintro a S t k w ⟨b, cm, mm, d, V, rfl, q⟩; exact yield16 w b cm mm S t d V q k
  advance := by rintro a S t k w ⟨b, cm, mm, d, V, rfl, q⟩; exact advance16 w b cm mm S t d V q k
  trim := by rintro a S t n w ⟨b, cm, mm, d, V, rfl, q⟩ hl hn; exact trim16 w b cm mm S t d V q hl n hn
  copy := by rintro a S t w ⟨b, cm, mm, d, V, rfl, q⟩ _; exact copy16 w b cm mm S t d V q

open Go.RowKit

theorem cmw : CmW where
  right v xs w hv hl := right16 v xs w hv hl
  over v u rs ps w hv hu _ hp h1 h2 := overs16 v u rs ps w hv hu (fun p hm => (hp p hm).2) h1 h2
  find u key ps w hu _ hp h2 := find16 u key ps w hu (fun p hm => (hp p hm).2) h2
  clash kv sv v ks ss xs w hk hs hv _ _ _ _ _ := clash16 kv sv v ks ss xs w hk hs hv
def cmc : CmC := ⟨cmt, cmw, cmn⟩
end Go.Proofs.Ytkbfhpgcjljbbaa
