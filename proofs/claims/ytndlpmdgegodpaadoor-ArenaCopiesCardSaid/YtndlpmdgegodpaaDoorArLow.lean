/- For the seat that has no ArenaCounts: a step in its block, an arena at hand. -/
import Derived.Test.YtndlpmdgegodpaaDoorArFew
import Derived.Test.YtndlpmdgegodpaaDoorArX
namespace Go.Proofs.YtndlpmdgegodpaaDoor
open Go.RowKit

theorem DB.of_range {b : Nat} {d : DoD} {w : World} (h : w.rangeAt b 0 d.cells) : DB b d.verb d.sc (.slice d.ra d.rows.length d.rc) (.slice d.ea d.ents.length d.ec) d.x d.y d.last d.nn w := by
  have g : ∀ j u, d.cells[j]? = some u → w.cell? ⟨b, j, none⟩ = some u := fun j u hj => by have := h j u hj; rwa [Nat.zero_add] at this
  exact ⟨g 0 _ rfl, g 1 _ rfl, g 2 _ rfl, g 3 _ rfl, g 4 _ rfl, g 5 _ rfl, g 6 _ rfl, g 7 _ rfl, g 8 _ rfl, g 9 _ rfl, g 10 _ rfl, g 11 _ rfl, g 12 _ rfl, g 13 _ rfl, g 14 _ rfl, g 15 _ rfl, g 16 _ rfl, g 17 _ rfl, g 18 _ rfl, g 19 _ rfl⟩
def recL (s : Sc) (rv ev : Value) : List Value := [.int .i64 s.kind, .string s.low, .string s.high, .bool s.unb, .int .i64 s.right, rv, ev, .string s.key, .string s.value, .int .i64 s.page, .int .i64 s.hp, .int .i64 s.hl, .string s.hk, .int .i64 s.ns, .int .i64 s.ng]
theorem DB.recd {n : Nat} {verb : Int} {s : Sc} {rv en : Value} {x y : Int} {last : Bool} {nn : Int} {w : World} (h : DB n verb s rv en x y last nn w) : w.rangeAt n 1 (recL s rv en) := fun j u hj => by
  have hlt : j < 15 := (List.getElem?_eq_some_iff.1 hj).1
  match j, hlt, hj with
  | 0, _, hj => obtain rfl := Option.some.inj hj; exact h.c1
  | 1, _, hj => obtain rfl := Option.some.inj hj; exact h.c2
  | 2, _, hj => obtain rfl := Option.some.inj hj; exact h.c3
  | 3, _, hj => obtain rfl := Option.some.inj hj; exact h.c4
  | 4, _, hj => obtain rfl := Option.some.inj hj; exact h.c5
  | 5, _, hj => obtain rfl := Option.some.inj hj; exact h.c6
  | 6, _, hj => obtain rfl := Option.some.inj hj; exact h.c7
  | 7, _, hj => obtain rfl := Option.some.inj hj; exact h.c8
  | 8, _, hj => obtain rfl := Option.some.inj hj; exact h.c9
  | 9, _, hj => obtain rfl := Option.some.inj hj; exact h.c10
  | 10, _, hj => obtain rfl := Option.some.inj hj; exact h.c11
  | 11, _, hj => obtain rfl := Option.some.inj hj; exact h.c12
  | 12, _, hj => obtain rfl := Option.some.inj hj; exact h.c13
  | 13, _, hj => obtain rfl := Option.some.inj hj; exact h.c14
  | 14, _, hj => obtain rfl := Option.some.inj hj; exact h.c15
theorem okD_in {ds : List DoD} {sl : Int} (h : fewD sl ds = true) {d : DoD} (hd : d ∈ ds) : d.rows.length ≤ 60 ∧ d.ents.length ≤ 60 := by
  unfold fewD at h
  simp only [Bool.and_eq_true, List.all_eq_true, decide_eq_true_eq] at h
  exact h.1.1 d hd
theorem okD_len {ds : List DoD} {sl : Int} (h : fewD sl ds = true) : ds.length ≤ 60 := by
  unfold fewD at h
  simp only [Bool.and_eq_true, decide_eq_true_eq] at h
  exact h.1.2
/-- behind a call that makes memory of its own alone: an arena, and what lies outside its footprint -/
structure Ar (C : ArC) (w w1 : World) (a : Addr) (S : Nat → Prop) (n l : Nat) (ps : List Pt) : Prop where
  inv : C.Inv w1 a S n l ps
  base : ∀ k, S k → w.heap.size ≤ k
  low : Below w.heap.size w w1
theorem Ar.step {C : ArC} {w w1 w2 : World} {a : Addr} {S : Nat → Prop} {n l : Nat} {ps : List Pt} (h : Ar C w w1 a S n l ps) (hs : Below w1.heap.size w1 w2) : Ar C w w2 a S n l ps := ⟨C.step h.inv hs, h.base, h.low.trans (hs.mono h.low.size)⟩
theorem Ar.turn {C : ArC} {w w1 w2 : World} {a : Addr} {S S2 : Nat → Prop} {n l : Nat} {ps ps2 : List Pt} (h : Ar C w w1 a S n l ps) (hi : C.Inv w2 a S2 n l ps2) (hk : Kept S w1 w2) (hS : ∀ k, S2 k → S k ∨ w1.heap.size ≤ k) : Ar C w w2 a S2 n l ps2 := by
  have t := mut_step h.base h.low h.low.size hk hS
  exact ⟨hi, t.2.1, t.1⟩
theorem Ar.kept {C : ArC} {w w1 w2 : World} {a : Addr} {S : Nat → Prop} {n l : Nat} {ps : List Pt} (h : Ar C w w1 a S n l ps) {mb : Nat} (hk : Kept (fun k => k = mb) w1 w2) (hS : ¬ S mb) (hb : w.heap.size ≤ mb) : Ar C w w2 a S n l ps :=
  ⟨C.keep h.inv (hk.wide fun _ _ e => e ▸ hS), h.base, h.low.trans (hk.below (n := w.heap.size) (fun _ e => e ▸ hb) h.low.size)⟩
theorem cntLe (P : Nat → Bool) : ∀ k, cnt k P ≤ k
  | 0 => Nat.le_refl _
  | k + 1 => by have := cntLe P k; rw [cnt_succ]; split <;> omega
theorem live60 {n : Nat} (ps : List Pt) (h : n ≤ 60) : (liveM n ps).length ≤ 60 := by rw [liveM_len]; exact Nat.le_trans (cntLe _ _) h
end Go.Proofs.YtndlpmdgegodpaaDoor
