/- Two tables side by side, each with the document's in a variable's block (layer 16). -/
import Derived.Test.YtkbfhpgcjljbbaaDoorCmLaw
namespace Go.Proofs.YtkbfhpgcjljbbaaDoor
set_option linter.unusedVariables false
set_option linter.unusedSimpArgs false
open Go.RowKit

theorem Lay.flat_drop {α : Type} (E : Lay α) : ∀ (xs : List α) (k : Nat), (E.flat xs).drop (k * E.sz) = E.flat (xs.drop k)
  | [], _ => by simp [Lay.flat]
  | _ :: _, 0 => by simp
  | x :: xs, k + 1 => by
    simp only [Lay.flat, List.drop_succ_cons]
    rw [List.drop_append, List.drop_of_length_le (by rw [E.len, Nat.add_mul]; omega), E.len, Nat.add_mul, show k * E.sz + 1 * E.sz - E.sz = k * E.sz by omega, E.flat_drop xs k, List.nil_append]
theorem SV.dropV {α : Type} {E : Lay α} {w : World} {b off n cap k : Nat} {xs : List α} (h : SV E w (.slice (some ⟨b, off, none⟩) n cap) xs) (hk : k ≤ xs.length) (hc : k < cap) : SV E w (.slice (some ⟨b, off + k * E.sz, none⟩) (n - k) (cap - k)) (xs.drop k) := by
  obtain ⟨a', cap', h1, h2, h3, h4, b', off', h5, h6⟩ := h
  obtain ⟨e, rfl, rfl⟩ := Value.slice.inj h1
  refine ⟨_, cap - k, by rw [List.length_drop], by rw [List.length_drop]; omega, by omega, fun h => (by cases h), b, off + k * E.sz, fun _ x hx => (Option.some.inj hx).symm, fun j u hu => ?_⟩
  have hlt : j < (xs.length - k) * E.sz := by
    have := (List.getElem?_eq_some_iff.1 hu).1
    rw [E.flat_len, List.length_drop] at this; exact this
  have hne : ¬ xs.length = 0 := fun h0 => by rw [h0] at hlt; simp at hlt
  have e2 := h5 hne _ e.symm
  obtain ⟨rfl, rfl⟩ : b = b' ∧ off = off' := by simpa using e2
  rw [← E.flat_drop, List.getElem?_drop] at hu
  rw [Nat.add_assoc]
  exact h6 _ u hu
theorem lDo_sz : lDo.sz = 5 := rfl
theorem DosV.dropV {w : World} {b off n cap k : Nat} {ds : List DoD} (h : DosV w (.slice (some ⟨b, off, none⟩) n cap) ds) (hk : k ≤ ds.length) (hc : k < cap) : DosV w (.slice (some ⟨b, off + k * 5, none⟩) (n - k) (cap - k)) (ds.drop k) := by
  obtain ⟨rs, h1, h2, h3⟩ := h
  have e := h1.dropV (k := k) (by omega) hc
  rw [lDo_sz] at e
  refine ⟨rs.drop k, e, by simp [h2], fun i r d hr hd => ?_⟩
  rw [List.getElem?_drop] at hr hd
  exact h3 _ r d hr hd
/-- two pairs, apart from each other -/
structure Tw (C : CmT) (w0 w : World) (a : Addr) (S : Nat → Prop) (t : Tb) (rb : Nat) (va vd vm : Value) (c : Addr) (S2 : Nat → Prop) (u : Tb) (qb : Nat) (ua ud um : Value) : Prop where
  one : LawP C w0 w a S t rb va vd vm
  two : LawP C w0 w c S2 u qb ua ud um
  ss : ∀ k, S k → S2 k → isW w k
  rS2 : ¬ S2 rb
  qS : ¬ S qb
  rq : rb ≠ qb
  b1 : ∀ k, rtB va vd vm k → ¬ S2 k ∧ k ≠ qb
  b2 : ∀ k, rtB ua ud um k → ¬ S k ∧ k ≠ rb
structure TwQ (C : CmT) (w0 w : World) (a : Addr) (S : Nat → Prop) (t : Tb) (rb : Nat) (va vd vm : Value) (c : Addr) (S2 : Nat → Prop) (u : Tb) (qb : Nat) (ua ud um : Value) : Prop where
  one : LawQ C w0 w a S t rb va vd vm
  two : LawP C w0 w c S2 u qb ua ud um
  ss : ∀ k, S k → S2 k → isW w k
  rS2 : ¬ S2 rb
  qS : ¬ S qb
  rq : rb ≠ qb
  b1 : ∀ k, rtB va vd vm k → ¬ S2 k ∧ k ≠ qb
  b2 : ∀ k, rtB ua ud um k → ¬ S k ∧ k ≠ rb
section
variable {C : CmT} {w0 w w' : World} {a c : Addr} {S S2 : Nat → Prop} {t u : Tb} {rb qb : Nat} {va vd vm ua ud um : Value}
theorem Tw.step (h : Tw C w0 w a S t rb va vd vm c S2 u qb ua ud um) (hb : Below w.heap.size w w') : Tw C w0 w' a S t rb va vd vm c S2 u qb ua ud um := ⟨h.one.step hb, h.two.step hb, fun k x y => (h.ss k x y).below hb, h.rS2, h.qS, h.rq, h.b1, h.b2⟩
theorem Tw.swap (h : Tw C w0 w a S t rb va vd vm c S2 u qb ua ud um) : Tw C w0 w c S2 u qb ua ud um a S t rb va vd vm := ⟨h.two, h.one, fun k h1 h2 => h.ss k h2 h1, h.qS, h.rS2, fun e => h.rq e.symm, h.b2, h.b1⟩
theorem Tw.does {w2 : World} {S' : Nat → Prop} {va' vd' vm' : Value} {d : DoD} (h : Tw C w0 w a S t rb va vd vm c S2 u qb ua ud um) (hd : d.may) (hlen : t.all.length + 1 ≤ 500)
    (hI : C.Inv w2 a S' (t.step d)) (hV : RtV w0 w2 (t.step d) va' vd' vm') (hoff : ∀ k, rtB va' vd' vm' k → ¬ S' k) (hK : Kept (Mt w S) w w2) (hS : ∀ k, S' k → S k ∨ w.heap.size ≤ k) (hB : ∀ b, rtB va' vd' vm' b → rtB va vd vm b ∨ w.heap.size ≤ b) :
    TwQ C w0 w2 a S' (t.step d) rb va' vd' vm' c S2 u qb ua ud um := by
  have f2 := C.foot h.two.pre.inv
  have q1 := (Array.getElem?_eq_some_iff.1 h.two.blk).1
  have r1 := (Array.getElem?_eq_some_iff.1 h.one.blk).1
  have g2 := h.two.pre.rt.bounds
  refine ⟨h.one.does hd hlen hI hV hoff hK hS hB, ⟨⟨C.keep h.two.pre.inv (hK.wide (fun k _ e hs => e.2 (h.ss k e.1 hs))), h.two.pre.rt.keep hK.mt (fun k e => (h.b2 k e).1), h.two.pre.low.trans (hK.mt.below h.one.pre.S0 h.two.pre.low.size), h.two.pre.off, h.two.pre.S0, h.two.pre.glob, h.two.pre.len, h.two.pre.small⟩, blk_keep h.two.blk hK.mt h.qS, h.two.nS, h.two.nB, h.two.rb0⟩,
    fun k hk hs => (hS k hk).elim (fun e => (h.ss k e hs).keep hK (fun m => m.2 (h.ss k e hs))) (fun e => by have := f2 k hs; omega), h.rS2, fun hk => (hS qb hk).elim h.qS (fun e => by omega), h.rq, fun k hk => (hB k hk).elim (h.b1 k) (fun e => ⟨fun hs => by have := f2 k hs; omega, by omega⟩), fun k hk => ⟨fun hs => (hS k hs).elim (h.b2 k hk).1 (fun e => by have := g2 k hk; omega), (h.b2 k hk).2⟩⟩
theorem TwQ.store {wz : World} (h : TwQ C w0 w a S t rb va vd vm c S2 u qb ua ud um) (hz : wz = w.setCells rb 0 (rtL t va vd vm)) : Tw C w0 wz a S t rb va vd vm c S2 u qb ua ud um := by
  have hk : Kept (fun k => k = rb) w wz := by rw [hz]; exact Kept.setCells (w := w) (b := rb) _ 0 w (Kept.refl _ _)
  exact ⟨h.one.store hz, ⟨h.two.pre.write h.rS2 (fun e => (h.b2 rb e).2 rfl) h.one.rb0 hk, blk_keep h.two.blk hk (fun e => h.rq e.symm), h.two.nS, h.two.nB, h.two.rb0⟩, fun k x y => (h.ss k x y).keep hk (fun e => h.one.nS (e ▸ x)), h.rS2, h.qS, h.rq, h.b1, h.b2⟩
/-- a copy, and the document's in a block of its own that is about to be written -/
theorem TwQ.start {w1 w2 : World} {L : List Value} (h : LawP C w0 w a S t rb va vd vm) (hb : Below w.heap.size w w2) (hI : C.Inv w2 c S2 t) (hS2 : ∀ k, S2 k → w.heap.size ≤ k ∨ (S k ∧ isW w k)) (hq : w.heap.size ≤ qb) (hqS : ¬ S2 qb) (hL : L.length = 6) (hblk : w2.heap[qb]? = some (.cells L.toArray 31 (0, 0))) :
    TwQ C w0 w2 c S2 t qb va vd vm a S t rb va vd vm := by
  have f1 := C.foot h.pre.inv
  have r1 := (Array.getElem?_eq_some_iff.1 h.blk).1
  have g1 := h.pre.rt.bounds
  have p := h.pre.step hb
  refine ⟨⟨⟨hI, p.rt, p.low, fun k hk hs => (hS2 k hs).elim (fun h2 => by have h1 := g1 k hk; omega) (fun h2 => h.pre.off k hk h2.1), fun k hk => (hS2 k hk).elim (Nat.le_trans h.pre.low.size) (fun h2 => h.pre.S0 k h2.1), p.glob, p.len, p.small⟩, ⟨L, hL, hblk⟩, hqS, fun e => by have := g1 _ e; omega, Nat.le_trans h.pre.low.size hq⟩, h.step hb,
    fun k hk hs => (hS2 k hk).elim (fun h1 => by have h2 := f1 k hs; omega) (fun h1 => h1.2.below hb), fun e => by have := f1 _ e; omega, fun e => (hS2 _ e).elim (fun h1 => by omega) (fun h1 => h.nS h1.1), by omega, fun k hk => ⟨h.pre.off k hk, fun e => h.nB (e ▸ hk)⟩, fun k hk => ⟨fun hs => (hS2 k hs).elim (fun h2 => by have h1 := g1 k hk; omega) (fun h2 => h.pre.off k hk h2.1), by have := g1 k hk; omega⟩⟩
end
end Go.Proofs.YtkbfhpgcjljbbaaDoor
