/- What ArenaOnce keeps from round to round: an arena, the refs that are live, those that are gone, those that were told. -/
import Derived.Test.YtkokpbkpmhhemaaArMaps
import Derived.Maps.AppendAt
namespace Go.Proofs.Ytkokpbkpmhhemaa
open Go.RowKit Go.Maps

theorem MapU.keptS {S : Nat → Prop} {w w' : World} {mb c : Nat} {U : Int → Bool} (h : MapU w mb c U) (hk : Kept S w w') (hS : ¬ S mb) : MapU w' mb c U := by
  obtain ⟨D, ⟨es, clock, hb, r⟩, h2⟩ := h
  exact ⟨D, ⟨es, clock, (hk.block mb (Array.getElem?_eq_some_iff.1 hb).1 hS).trans hb, r⟩, h2⟩
/-- a map, and its parts that may turn -/
structure Mp where
  U : Int → Int → Bool
  sz : Nat
  c : Nat
  D : DataW Unit
structure On (C : ArC) (w wz : World) (a : Addr) (lb : Nat) (S : Nat → Prop) (n l : Nat) (ps : List Pt) (L G : Mp) (tv : Value) (told : List Rf) : Prop where
  ar : Ar C w wz a S n l ps
  mL : MapD wz lb L.c L.U L.sz L.D
  mG : MapD wz (lb + 1) G.c G.U G.sz G.D
  own : OwnS lRef (lb + 2) wz tv told
  wf : ∀ r ∈ told, wf64 r.1 ∧ wf64 r.2
  sL : ¬ S lb
  sG : ¬ S (lb + 1)
  sT : ∀ k, tv.ownBlock = some k → ¬ S k
  base : w.heap.size ≤ lb
  size : lb + 2 ≤ wz.heap.size
variable {C : ArC} {w wz w' : World} {a : Addr} {lb : Nat} {S : Nat → Prop} {n l : Nat} {ps : List Pt} {L G : Mp} {tv : Value} {told : List Rf}
theorem On.step (h : On C w wz a lb S n l ps L G tv told) (hs : Below wz.heap.size wz w') : On C w w' a lb S n l ps L G tv told :=
  ⟨h.ar.step hs, h.mL.low hs, h.mG.low hs, h.own.below hs, h.wf, h.sL, h.sG, h.sT, h.base, Nat.le_trans h.size hs.size⟩
theorem On.turn (h : On C w wz a lb S n l ps L G tv told) {S2 : Nat → Prop} {ps2 : List Pt} (hi : C.Inv w' a S2 n l ps2) (hk : Kept S wz w') (hS : ∀ k, S2 k → S k ∨ wz.heap.size ≤ k) : On C w w' a lb S2 n l ps2 L G tv told := by
  have hz := h.size
  refine ⟨h.ar.turn hi hk hS, h.mL.keptS hk h.sL, h.mG.keptS hk h.sG, h.own.kept hk (fun x m c hv => h.sT x.block (by rw [hv]; rfl)), h.wf, fun h2 => ?_, fun h2 => ?_, fun k hk2 h2 => ?_, h.base, Nat.le_trans hz hk.size⟩
  · rcases hS _ h2 with h3 | h3
    · exact h.sL h3
    · omega
  · rcases hS _ h2 with h3 | h3
    · exact h.sG h3
    · omega
  · rcases hS _ h2 with h3 | h3
    · exact h.sT k hk2 h3
    · have := (h.own.bounds k hk2).2; omega
/-- nothing but one block has turned, and that is none of the arena's -/
theorem On.other (h : On C w wz a lb S n l ps L G tv told) {mb : Nat} (hk : Kept (fun k => k = mb) wz w') (hS : ¬ S mb) (h1 : mb ≠ lb) (h2 : mb ≠ lb + 1) (hb : w.heap.size ≤ mb) (ht : ∀ k, tv.ownBlock = some k → k ≠ mb) : On C w w' a lb S n l ps L G tv told :=
  ⟨h.ar.kept hk hS hb, h.mL.keptS hk (fun e => h1 e.symm), h.mG.keptS hk (fun e => h2 e.symm), h.own.kept hk (fun x m c hv e => ht x.block (by rw [hv]; rfl) e), h.wf, h.sL, h.sG, h.sT, h.base, Nat.le_trans h.size hk.size⟩
theorem On.tvne (h : On C w wz a lb S n l ps L G tv told) : ∀ k, tv.ownBlock = some k → k ≠ lb ∧ k ≠ lb + 1 := fun k hk => by have := (h.own.bounds k hk).1; omega
theorem kept_one {mb : Nat} (hg : wz.grownBy w' (some mb)) : Kept (fun k => k = mb) wz w' := (Kept.of_grown hg).wide fun _ _ h => Option.some.inj h
theorem On.putL (h : On C w wz a lb S n l ps L G tv told) {x y : Int} (hx : wf64 x) (hy : wf64 y) {c' : Nat} (hn : w'.ownsMap Try.prog 34 (plainElem Try.prog 3) lb c' (L.D.put (kR x y) (.lit (.int .i64 1)))) (hg : wz.grownBy w' (some lb)) :
    On C w w' a lb S n l ps ⟨fun p q => L.U p q || eqR p q x y, if L.U x y then L.sz else L.sz + 1, c', L.D.put (kR x y) (.lit (.int .i64 1))⟩ G tv told := by
  have hk := kept_one hg
  exact ⟨h.ar.kept hk h.sL h.base, h.mL.put hx hy hn, h.mG.keptS hk (by omega), h.own.kept hk (fun x m c hv e => (h.tvne x.block (by rw [hv]; rfl)).1 e), h.wf, h.sL, h.sG, h.sT, h.base, Nat.le_trans h.size hk.size⟩
theorem On.putG (h : On C w wz a lb S n l ps L G tv told) {x y : Int} (hx : wf64 x) (hy : wf64 y) {c' : Nat} (hn : w'.ownsMap Try.prog 34 (plainElem Try.prog 3) (lb + 1) c' (G.D.put (kR x y) (.lit (.int .i64 1)))) (hg : wz.grownBy w' (some (lb + 1))) :
    On C w w' a lb S n l ps L ⟨fun p q => G.U p q || eqR p q x y, if G.U x y then G.sz else G.sz + 1, c', G.D.put (kR x y) (.lit (.int .i64 1))⟩ tv told := by
  have hk := kept_one hg
  exact ⟨h.ar.kept hk h.sG (Nat.le_trans h.base (Nat.le_succ _)), h.mL.keptS hk (by omega), h.mG.put hx hy hn, h.own.kept hk (fun x m c hv e => (h.tvne x.block (by rw [hv]; rfl)).2 e), h.wf, h.sL, h.sG, h.sT, h.base, Nat.le_trans h.size hk.size⟩
theorem On.delL (h : On C w wz a lb S n l ps L G tv told) {x y : Int} (hx : wf64 x) (hy : wf64 y) (hU : L.U x y = true) {s c' : Nat} (hs : L.sz = s + 1) (hn : w'.ownsMap Try.prog 34 (plainElem Try.prog 3) lb c' (L.D.del (kR x y))) (hg : wz.grownBy w' (some lb)) :
    On C w w' a lb S n l ps ⟨fun p q => L.U p q && !eqR p q x y, s, c', L.D.del (kR x y)⟩ G tv told := by
  have hk := kept_one hg
  have hm := h.mL
  rw [hs] at hm
  exact ⟨h.ar.kept hk h.sL h.base, hm.del hx hy hU hn, h.mG.keptS hk (by omega), h.own.kept hk (fun x m c hv e => (h.tvne x.block (by rw [hv]; rfl)).1 e), h.wf, h.sL, h.sG, h.sT, h.base, Nat.le_trans h.size hk.size⟩
theorem On.app (h : On C w wz a lb S n l ps L G tv told) {tv2 : Value} {x y : Int} (hx : wf64 x) (hy : wf64 y) (ho : OwnS lRef (lb + 2) w' tv2 (told ++ [(x, y)])) (hg : wz.grownBy w' tv.ownBlock) (hnew : ∀ k, tv2.ownBlock = some k → tv.ownBlock = some k ∨ wz.heap.size ≤ k) :
    On C w w' a lb S n l ps L G tv2 (told ++ [(x, y)]) := by
  have hk := Kept.of_grown hg
  have hb := h.ar.low
  refine ⟨⟨C.keep h.ar.inv (hk.wide fun k _ e => h.sT k e.symm), h.ar.base, hb.trans (hk.below (n := w.heap.size) (fun k e => Nat.le_trans (Nat.le_trans h.base (Nat.le_add_right _ 2)) (h.own.bounds k e.symm).1) hb.size)⟩, h.mL.keptS hk (fun e => (h.tvne _ e.symm).1 rfl), h.mG.keptS hk (fun e => (h.tvne _ e.symm).2 rfl), ho, ?_, h.sL, h.sG, fun k hk2 hs => ?_, h.base, Nat.le_trans h.size hk.size⟩
  · intro r hr
    rcases List.mem_append.1 hr with hr | hr
    · exact h.wf r hr
    · obtain rfl := List.mem_singleton.1 hr; exact ⟨hx, hy⟩
  · rcases hnew k hk2 with h1 | h1
    · exact h.sT k h1 hs
    · have := C.foot h.ar.inv k hs; omega
/-! ### A look-up under a guard; where an appended row lies -/
set_option maxRecDepth 100000 in
theorem wpList_lookupG (w : World) {ops : Array Oper} {rest : List Oper} {o : Oper} {a : Act} {Q : Exit → Act → World → Prop}
    (hgw : Region.wanted o (yielded ops a.tmps) = true) (m x : Operand) (t : TypeId) (hop : o.op = Op.lookup t m x false)
    (k e : TypeId) (q : IntKind) (K : Keyed Try.prog k) (ht : Try.prog.underlying t = some (.map k e)) (he : Try.prog.underlying e = some (.int q)) (hz : (zeroValue e).run Try.prog w = .ok (.int q 0) w) (b n : Nat) (D : DataW Unit)
    (hm : a.eval m = .map (some b)) (hown : w.ownsMap Try.prog k (plainElem Try.prog e) b n D) (key : Value) (kl : Lit) (hx : a.eval x = key) (hkey : keyOf Try.prog k key = some kl) (c : Int) (hat : D.atKey kl (.lit (.int q 0)) = .lit (.int q c))
    (hK : wpList Try.prog ops Q rest (a.put o.dst (.int q c)) w) : wpList Try.prog ops Q (o :: rest) a w := by
  refine BigFrame.wpList_want hgw fun K' hK' => ?_
  obtain ⟨c', hrun, hat', -⟩ := hown.lookup_int K ht he hz hkey
  rw [hat] at hat'
  obtain rfl : c = c' := by simpa using hat'
  unfold Oper.wp execOp
  simp [hop, hm, hx, hrun, Result.andThen]
  exact hK' _ _ hK
set_option maxRecDepth 100000 in
theorem wpList_appAt {α : Type} (E : Lay α) (T : TypeId) (hT : Try.prog.underlying T = some (.slice E.ty)) {by_ : Nat} (hk : E.known by_) (hz : 0 < E.sz) (hby : by_ ≤ 10000) {ops : Array Oper} {rest : List Oper} {o : Oper} {a : Act} {w : World} {Q : Exit → Act → World → Prop}
    (hgd : o.guard = none) (s x : Operand) (ho : o.op = .call { callee := .builtin .append, args := #[s, x], argTypes := #[T, T] }) (base : Nat) {v : Value} {xs : List α} (y : α) (b : Nat)
    (hs : a.eval s = v) (hx : a.eval x = .slice (some ⟨b, 0, none⟩) 1 1) (hown : OwnS E base w v xs) (hsrc : SV E w (.slice (some ⟨b, 0, none⟩) 1 1) [y]) (h63 : xs.length ≤ 10000) (hbase : base ≤ w.heap.size)
    (h : ∀ v' w', OwnS E base w' v' (xs ++ [y]) → w.grownBy w' v.ownBlock → (∀ k, v'.ownBlock = some k → v.ownBlock = some k ∨ w.heap.size ≤ k) → wpList Try.prog ops Q rest (a.put o.dst v') w') : wpList Try.prog ops Q (o :: rest) a w := by
  obtain ⟨i, z, hi, hzz, hsz, hb, hzs⟩ := hk
  obtain ⟨a', cap', h1, h2, h3, h4, b', off', h5, h6⟩ := hsrc
  obtain ⟨rfl, -, -⟩ := Value.slice.inj h1
  have e := h5 (by simp) _ rfl
  obtain ⟨rfl, rfl⟩ : b = b' ∧ 0 = off' := by simpa using e
  have hbb : (xs.length + 1) * by_ ≤ 10001 * 10000 := Nat.mul_le_mul (by omega) hby
  refine wpList_append_own_at w hgd s x T ho base E.ty i z E.sz by_ hT hi hzz hsz hb hzs hz v xs.length (E.flat xs) hs hown ⟨b, 0, none⟩ 1 1 (E.flat [y]) hx (by rw [E.flat_len]; rfl) (fun j u hu => by rw [Addr.add_lit]; exact h6 j u hu) (E.flat_one [y]) (by simp [maxLen]; omega) (by omega) hbase ?_
  intro v' w' r1 r2 _ r4
  refine h v' w' ?_ r2 (fun k hk => r4.imp (fun e => by rw [← e]; exact hk) (fun e => by rw [e] at hk; exact Nat.le_of_eq (Option.some.inj hk)))
  unfold OwnS
  rw [E.flat_app, List.length_append]
  exact r1
end Go.Proofs.Ytkokpbkpmhhemaa
