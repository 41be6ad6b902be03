/- Two arenas, and the document's own beside each: what ArenaCopies keeps. -/
import Derived.Test.YtndlpmdgegodpaaDoorArPl
namespace Go.Proofs.YtndlpmdgegodpaaDoor
open Go.RowKit

theorem Lay.flat_drop {α : Type} (E : Lay α) : ∀ (xs : List α) (k : Nat), (E.flat xs).drop (k * E.sz) = E.flat (xs.drop k)
  | [], _ => by simp [Lay.flat]
  | _ :: _, 0 => by simp
  | x :: xs, k + 1 => by
    simp only [Lay.flat, List.drop_succ_cons]
    rw [List.drop_append, List.drop_of_length_le (by rw [E.len, Nat.add_mul]; omega), E.len, Nat.add_mul, show k * E.sz + 1 * E.sz - E.sz = k * E.sz by omega, E.flat_drop xs k, List.nil_append]
theorem SV.dropV {α : Type} {E : Lay α} {w : World} {b off n cap k : Nat} {xs : List α} (h : SV E w (.slice (some ⟨b, off, none⟩) n cap) xs) (hk : k ≤ xs.length) (hc : k < cap) : SV E w (.slice (some ⟨b, off + k * E.sz, none⟩) (n - k) (cap - k)) (xs.drop k) := by
  obtain ⟨a', cap', h1, h2, h3, h4, b', off', h5, h6⟩ := h
  obtain ⟨e, rfl, rfl⟩ := Value.slice.inj h1
  refine ⟨_, cap - k, by rw [List.length_drop], by rw [List.length_drop]; omega, by omega, fun h => (by cases h), b, off + k * E.sz, fun _ x hx => (Option.some.inj hx).symm, fun j u hu => ?_⟩
  have hlt : j < (xs.length - k) * E.sz := by
    have := (List.getElem?_eq_some_iff.1 hu).1
    rw [E.flat_len, List.length_drop] at this; exact this
  have hne : ¬ xs.length = 0 := fun h0 => by rw [h0] at hlt; simp at hlt
  have e2 := h5 hne _ e.symm
  obtain ⟨rfl, rfl⟩ : b = b' ∧ off = off' := by simpa using e2
  rw [← E.flat_drop, List.getElem?_drop] at hu
  rw [Nat.add_assoc]
  exact h6 _ u hu
structure Tw (C : ArC) (W w : World) (n l : Nat) (a : Addr) (S : Nat → Prop) (us : List PuD) (v : Value) (rb : Nat) (c : Addr) (S2 : Nat → Prop) (us2 : List PuD) (v2 : Value) (qb : Nat) (tv : Value) (told : List Rf) : Prop where
  p : Du C W w a S n l (us.map PuD.pt) us v
  kA : w.heap[rb]? = some (.cells #[.int .i64 n, .int .i64 l, v] 29 (0, 0))
  q : Du C W w c S2 n l (us2.map PuD.pt) us2 v2
  kB : w.heap[qb]? = some (.cells #[.int .i64 n, .int .i64 l, v2] 29 (0, 0))
  st : OwnS lRef W.heap.size w tv told
  sR : ¬ S rb
  sQ : ¬ S qb
  tR : ¬ S2 rb
  tQ : ¬ S2 qb
  dj : ∀ k, S k → ¬ S2 k
  o1 : ∀ k, v2.ownBlock = some k → ¬ S k
  o2 : ∀ k, v.ownBlock = some k → ¬ S2 k
  t1 : ∀ k, tv.ownBlock = some k → ¬ S k
  t2 : ∀ k, tv.ownBlock = some k → ¬ S2 k
  ne : rb ≠ qb
  w1 : W.heap.size ≤ rb
  w2 : W.heap.size ≤ qb
section
variable {C : ArC} {W w w' : World} {n l : Nat} {a c : Addr} {S S2 S' : Nat → Prop} {us us2 us' : List PuD} {v v2 v' : Value} {rb qb : Nat} {tv : Value} {told : List Rf}
theorem Tw.swap (h : Tw C W w n l a S us v rb c S2 us2 v2 qb tv told) : Tw C W w n l c S2 us2 v2 qb a S us v rb tv told :=
  ⟨h.q, h.kB, h.p, h.kA, h.st, h.tQ, h.tR, h.sQ, h.sR, fun k s t => h.dj k t s, h.o2, h.o1, h.t2, h.t1, fun e => h.ne e.symm, h.w2, h.w1⟩
theorem Tw.step (h : Tw C W w n l a S us v rb c S2 us2 v2 qb tv told) (hs : Below w.heap.size w w') : Tw C W w' n l a S us v rb c S2 us2 v2 qb tv told :=
  ⟨h.p.step hs, blk_step h.kA hs, h.q.step hs, blk_step h.kB hs, h.st.below hs, h.sR, h.sQ, h.tR, h.tQ, h.dj, h.o1, h.o2, h.t1, h.t2, h.ne, h.w1, h.w2⟩
theorem Tw.does (h : Tw C W w n l a S us v rb c S2 us2 v2 qb tv told) (hD : Du C W w' a S' n l (us'.map PuD.pt) us' v') (hk : Kept S w w') (hS : ∀ k, S' k → S k ∨ w.heap.size ≤ k) (hv : v' = v ∨ ∀ k, v'.ownBlock = some k → w.heap.size ≤ k) :
    w'.heap[rb]? = some (.cells #[.int .i64 n, .int .i64 l, v] 29 (0, 0)) ∧ Tw C W (setR w' rb n l v') n l a S' us' v' rb c S2 us2 v2 qb tv told := by
  have lA : rb < w.heap.size := (Array.getElem?_eq_some_iff.1 h.kA).1
  have lB : qb < w.heap.size := (Array.getElem?_eq_some_iff.1 h.kB).1
  have kA' := blk_keep h.kA hk h.sR
  have kB' := blk_keep h.kB hk h.sQ
  have q' := h.q.kept hk h.p.base (fun k s2 s => h.dj k s s2) h.o1
  have st' := h.st.kept hk (fun x m c hv => h.t1 x.block (by rw [hv]; rfl))
  have kr := setR_kept w' rb n l v'
  obtain ⟨-, -, -, -, -, -, s6⟩ := three_facts kA' (.int .i64 n) (.int .i64 l) v'
  have sR' : ¬ S' rb := fun q => (hS _ q).elim h.sR (fun q => by omega)
  refine ⟨kA', hD.kept kr (fun k q => q ▸ h.w1) (fun k s q => sR' (q ▸ s)) (own_type hD.own kA' (by decide)), s6, q'.kept kr (fun k q => q ▸ h.w1) (fun k s q => h.tR (q ▸ s)) (own_type q'.own kA' (by decide)), blk_keep kB' kr (fun e => h.ne e.symm),
    st'.kept kr (fun x m c hv q => own_type st' kA' (by decide) x.block (by rw [hv]; rfl) q), sR', fun q => (hS _ q).elim h.sQ (fun q => by omega), h.tR, h.tQ, fun k s s2 => (hS _ s).elim (fun q => h.dj k q s2) (fun q => by have := C.foot h.q.inv k s2; omega),
    fun k hk2 s => (hS _ s).elim (h.o1 k hk2) (fun q => by have := (h.q.own.bounds k hk2).2; omega), fun k hk2 s2 => ?_, fun k hk2 s => (hS _ s).elim (h.t1 k hk2) (fun q => by have := (h.st.bounds k hk2).2; omega), h.t2, h.ne, h.w1, h.w2⟩
  rcases hv with rfl | hv
  · exact h.o2 k hk2 s2
  · have := C.foot h.q.inv k s2
    have := hv k hk2
    omega
theorem Tw.start (h : Pl C W w a S n l us v v rb (.slice none 0 0) []) (hb : Below w.heap.size w w') (hI : C.Inv w' c S2 n l (us.map PuD.pt)) (hS2 : ∀ k, S2 k → w.heap.size ≤ k) (hst : OwnS lRef w.heap.size w' tv told) (ht2 : ∀ k, tv.ownBlock = some k → ¬ S2 k) (hq : w.heap.size ≤ qb) (hqS : ¬ S2 qb)
    (hkZ : w'.heap[qb]? = some (.cells #[.int .i64 0, .int .i64 0, .slice none 0 0] 29 (0, 0))) : Tw C W (setR w' qb n l v) n l a S us v rb c S2 us v qb tv told := by
  have hW := h.du.low.size
  have lA := h.lt
  have kr := setR_kept w' qb n l v
  obtain ⟨-, -, -, -, -, -, s6⟩ := three_facts hkZ (.int .i64 n) (.int .i64 l) v
  have D1 := h.du.step hb
  have D2 : Du C W w' c S2 n l (us.map PuD.pt) us v := ⟨hI, fun k q => Nat.le_trans hW (hS2 k q), D1.low, D1.own, fun k hk s => by have := (h.du.own.bounds k hk).2; have := hS2 k s; omega, h.du.kin⟩
  have fS : ∀ k, S k → k < w.heap.size := fun k s => C.foot h.du.inv k s
  exact ⟨D1.kept kr (fun k q => by omega) (fun k s q => by have := fS k s; omega) (own_type D1.own hkZ (by decide)), blk_keep (blk_step h.kA hb) kr (by omega), D2.kept kr (fun k q => by omega) (fun k s q => hqS (q ▸ s)) (own_type D2.own hkZ (by decide)), s6,
    (hst.kept kr (fun x m c hv q => own_type hst hkZ (by decide) x.block (by rw [hv]; rfl) q)).mono hW, h.sR, fun q => by have := fS _ q; omega, fun q => by have := hS2 _ q; omega, hqS, fun k s s2 => by have := fS k s; have := hS2 k s2; omega, h.du.off, D2.off,
    fun k hk s => by have := (hst.bounds k hk).1; have := fS k s; omega, ht2, by omega, h.wle, Nat.le_trans hW hq⟩
end
end Go.Proofs.YtndlpmdgegodpaaDoor
