/- Records: their values, their cells, what they read as; a step. -/
import Derived.Test.YtkkmfacngmginaaLfMv
namespace Go.Proofs.Ytkkmfacngmginaa
open Go.RowKit

abbrev En := ByteArray × Int
abbrev Rf := Int × Int
def lRow : Lay Rw := ⟨133, 2, fun r => [.string r.1, .string r.2], fun _ => rfl, fun x u h => by simp at h; rcases h with rfl | rfl <;> rfl⟩
def lEnt : Lay En := ⟨44, 2, fun r => [.string r.1, .int .i64 r.2], fun _ => rfl, fun x u h => by simp at h; rcases h with rfl | rfl <;> rfl⟩
def lRef : Lay Rf := ⟨37, 2, fun r => [.int .i64 r.1, .int .i64 r.2], fun _ => rfl, fun x u h => by simp at h; rcases h with rfl | rfl <;> rfl⟩
/-- what a record has beside its rows and its entries -/
structure Sc where
  kind : Int
  low : ByteArray
  high : ByteArray
  unb : Bool
  right : Int
  key : ByteArray
  value : ByteArray
  page : Int
  hp : Int
  hl : Int
  hk : ByteArray
  ns : Int
  ng : Int
def Sc.zero : Sc := ⟨0, ⟨#[]⟩, ⟨#[]⟩, false, 0, ⟨#[]⟩, ⟨#[]⟩, 0, 0, 0, ⟨#[]⟩, 0, 0⟩
def recVal (s : Sc) (rv ev : Value) : Value :=
  .agg #[.int .i64 s.kind, .string s.low, .string s.high, .bool s.unb, .int .i64 s.right, rv, ev, .string s.key, .string s.value, .int .i64 s.page, .int .i64 s.hp, .int .i64 s.hl, .string s.hk, .int .i64 s.ns, .int .i64 s.ng]
theorem recInfo : (Try.prog.info? 39).map (fun i => (i.zero, i.size, i.bytes)) = some (some (recVal Sc.zero (.slice none 0 0) (.slice none 0 0)), 15, 192) := by kernel_rfl
theorem rowInfoL : (Try.prog.info? 133).map (fun i => (i.zero, i.size, i.bytes)) = some (some (.agg #[.string ⟨#[]⟩, .string ⟨#[]⟩]), 2, 32) := by kernel_rfl
theorem entInfo : (Try.prog.info? 44).map (fun i => (i.zero, i.size, i.bytes)) = some (some (.agg #[.string ⟨#[]⟩, .int .i64 0]), 2, 24) := by kernel_rfl
theorem refInfo : (Try.prog.info? 37).map (fun i => (i.zero, i.size, i.bytes)) = some (some (.agg #[.int .i64 0, .int .i64 0]), 2, 16) := by kernel_rfl
theorem known_of {α : Type} {E : Lay α} {z : Value} {n b : Nat} (h : (Try.prog.info? E.ty).map (fun i => (i.zero, i.size, i.bytes)) = some (some z, n, b)) (hn : n = E.sz) (hz : z.cells.size = n) : E.known b := by
  obtain ⟨i, hi, h⟩ := Option.map_eq_some_iff.1 h
  simp only [Prod.mk.injEq] at h
  exact ⟨i, z, hi, h.1, h.2.1.trans hn, h.2.2, hz.trans hn⟩
theorem lRow_known : lRow.known 32 := known_of rowInfoL rfl rfl
theorem lEnt_known : lEnt.known 24 := known_of entInfo rfl rfl
theorem lRef_known : lRef.known 16 := known_of refInfo rfl rfl
/-- what a record reads as -/
structure RecD where
  sc : Sc
  rows : List Rw
  ents : List En
def RecV (w : World) (v : Value) (d : RecD) : Prop := ∃ rv ev, v = recVal d.sc rv ev ∧ SV lRow w rv d.rows ∧ SV lEnt w ev d.ents
theorem RecV.below {w w' : World} {v : Value} {d : RecD} (h : RecV w v d) (hb : Below w.heap.size w w') : RecV w' v d := by
  obtain ⟨rv, ev, h1, h2, h3⟩ := h
  exact ⟨rv, ev, h1, h2.below hb, h3.below hb⟩
def RecD.zero : RecD := ⟨Sc.zero, [], []⟩
theorem RecV.zero (w : World) : RecV w (recVal Sc.zero (.slice none 0 0) (.slice none 0 0)) RecD.zero := ⟨_, _, rfl, SV.nil _ _, SV.nil _ _⟩
end Go.Proofs.Ytkkmfacngmginaa
