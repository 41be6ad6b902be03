/- A chain of faults in memory that ends in a code: what fault.At builds over a code. And errors.As (at *api.Code, at **api.Fault) over such a chain, by contracts. -/
import Derived.Test.YtejmdmaebkdjoaaGreatDoorFltFacts
import Derived.Test.YtejmdmaebkdjoaaGreatDoorKit
import Derived.Deep.LoopGhost
namespace Go.Proofs.YtejmdmaebkdjoaaGreatDoor.Fl
set_option linter.unusedVariables false
set_option linter.unusedSimpArgs false
set_option maxRecDepth 100000
set_option maxHeartbeats 4000000
open Go.RowKit Go.Extern.Stop Go.Stop Go.Extern
def Chn (w : World) : Value → List (ByteArray × Int) → Int → Prop
 | e, [], c => e = .iface 65 (.int .i64 c)
 | e, p :: l, c => ∃ b e', e = .iface 198 (.pointer (some ⟨b, 0, none⟩)) ∧ w.cell? ⟨b, 0, none⟩ = some (.string p.1) ∧ w.cell? ⟨b, 1, none⟩ = some (.int .i64 p.2) ∧ w.cell? ⟨b, 2, none⟩ = some e' ∧ Chn w e' l c
theorem Chn.keep {w w' : World} (hk : ∀ b o v, w.cell? ⟨b, o, none⟩ = some v → w'.cell? ⟨b, o, none⟩ = some v) {c : Int} : ∀ {l : List (ByteArray × Int)} {e : Value}, Chn w e l c → Chn w' e l c
 | [], _, h => h
 | _ :: _, _, ⟨b, e', he, h0, h1, h2, h⟩ => ⟨b, e', he, hk _ _ _ h0, hk _ _ _ h1, hk _ _ _ h2, Chn.keep hk h⟩
theorem Chn.below {w w' : World} (hb : Below w.heap.size w w') {c : Int} {l : List (ByteArray × Int)} {e : Value} (h : Chn w e l c) : Chn w' e l c :=
 h.keep fun b o v hv => by rw [hb.cell (p := ⟨b, o, none⟩) (lt_of_cell hv)]; exact hv
theorem Chn.held {w : World} {c : Int} {l : List (ByteArray × Int)} {e : Value} (h : Chn w e l c) : ∃ u v, e = .iface u v := by
 cases l with
 | nil => exact ⟨_, _, h⟩
 | cons p l => obtain ⟨b, e', he, _⟩ := h; exact ⟨_, _, he⟩
theorem as_code (l : List (ByteArray × Int)) (c : Int) (e : Value) (tb ab : Nat) (old : Value) (w : World) (h : Chn w e l c) (ha : w.cell? ⟨ab, 0, none⟩ = some (.pointer (some ⟨tb, 0, none⟩))) (ht : w.cell? ⟨tb, 0, none⟩ = some old) (hf : w.frozen? ⟨tb, 0, none⟩ = false) :
  Calls Tryz.prog 96 #[e, .iface 134 (.pointer (some ⟨tb, 0, none⟩)), .agg #[.pointer (some ⟨1, 134, none⟩), .pointer (some ⟨ab, 0, none⟩), .int .u64 150], .iface 208 (.agg #[.pointer (some ⟨1, 65, none⟩)])] w fun ev w' => ev = .returned (.bool true) ∧
   w' = ((w.alloc (.cells #[.pointer (some ⟨1, 134, none⟩), .pointer (some ⟨ab, 0, none⟩), .int .u64 150] 185)).alloc (.cells #[.int .i64 c] 65)).setCell ⟨tb, 0, none⟩ (.int .i64 c) := by
 have hla := lt_of_cell ha
 have hlt := lt_of_cell ht
 have hA := h.below ((Below.refl w.heap.size w).alloc (Nat.le_refl _) (.cells #[.pointer (some ⟨1, 134, none⟩), .pointer (some ⟨ab, 0, none⟩), .int .u64 150] 185))
 have A : Aside (Chn w e l c) := h
 clear h
 have x1 := x_typeOf
 have x2 := x_assignable
 have m2 := m_assignable
 have k1 := typeOfF
 have k2 := typeOfC
 have k3 := assignFC
 have k4 := assignCC
 have n1 := noAsF
 have n2 := hasUnF
 have m3 := m_unwrapF
 go_enter Tryz.func96, Tryz.ntmps96
 go_wp2
 go_loopg [0] l.length (fun k e W => ∃ l', l'.length = k ∧ Chn W e l' c ∧ W = w.alloc (.cells #[.pointer (some ⟨1, 134, none⟩), .pointer (some ⟨ab, 0, none⟩), .int .u64 150] 185))
 case atStart => exact ⟨l, rfl, hA, rfl⟩
 case round =>
  obtain ⟨l', hl', hC, rfl⟩ := hrel
  cases l' with
  | nil =>
   obtain rfl : _ = _ := hC
   have x3 := x_valueOf
   have x4 := x_vElem
   have x5 := x_set
   have v1 := valueOfC
   have el := elemVPC ⟨ab, 0, none⟩ ⟨tb, 0, none⟩ (w.alloc (.cells #[.pointer (some ⟨1, 134, none⟩), .pointer (some ⟨ab, 0, none⟩), .int .u64 150] 185)) (by rw [World.cell?_alloc_lt _ _ ⟨ab, 0, none⟩ hla]; exact ha)
   have st := setC ⟨tb, 0, none⟩ ⟨w.heap.size + 1, 0, none⟩ c old ((w.alloc (.cells #[.pointer (some ⟨1, 134, none⟩), .pointer (some ⟨ab, 0, none⟩), .int .u64 150] 185)).alloc (.cells #[.int .i64 c] 65))
    (by rw [World.cell?_alloc_at _ _ _ _ (by simp)]; rfl)
    (by rw [World.cell?_alloc_lt _ _ ⟨tb, 0, none⟩ (by simp; omega), World.cell?_alloc_lt _ _ ⟨tb, 0, none⟩ hlt]; exact ht)
    (by rw [World.frozen?_alloc_old _ _ ⟨tb, 0, none⟩ (by simp; omega), World.frozen?_alloc_old _ _ ⟨tb, 0, none⟩ (Nat.ne_of_lt hlt)]; exact hf)
   go_wp2
   go_ret
   exact ⟨rfl, rfl⟩
  | cons p l' =>
   obtain ⟨b, e', rfl, h0, h1, h2, hC'⟩ := hC
   obtain ⟨u, v, rfl⟩ := hC'.held
   have B : Aside (l'.length + 1 = gk) := hl'
   have hA : Aside _ := hC'
   clear hl' hC'
   go_wp2
   go_roundg l'.length
   case measure => have := B.out; omega
   case rel => exact ⟨l', rfl, hA.out, rfl⟩
end Go.Proofs.YtejmdmaebkdjoaaGreatDoor.Fl
