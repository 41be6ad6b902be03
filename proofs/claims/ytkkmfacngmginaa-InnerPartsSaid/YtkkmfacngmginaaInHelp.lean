/- What the walks of layer 8's laws share: chains of the call's own put together; codes and views of a chain with one record more. -/
import Derived.Test.YtkkmfacngmginaaInC
import Derived.Test.YtkkmfacngmginaaInFew
import Derived.Test.YtkkmfacngmginaaLfFault
import Derived.Deep.RegionHeldLaw
import Derived.Deep.CutRange
namespace Go.Proofs.Ytkkmfacngmginaa
open Go.RowKit

/-- APPEND as one operation of a region that draws its order -/
theorem step_appS {α : Type} (E : Lay α) (T : TypeId) (hT : Try.prog.underlying T = some (.slice E.ty)) {by_ : Nat} (hk : E.known by_) (hz : 0 < E.sz) (hby : by_ ≤ 10000) {ops : Array Oper} {o : Oper} {a : Act} {w : World} {K : Act → World → Prop} {Q : Exit → Act → World → Prop} {F : Prop} (hgd : o.guard = none) (s x : Operand)
    (ho : o.op = .call { callee := .builtin .append, args := #[s, x], argTypes := #[T, T] }) (base : Nat) {v xv : Value} {xs ys : List α}
    (hs : a.eval s = v) (hx : a.eval x = xv) (hown : OwnS E base w v xs) (hsrc : SV E w xv ys) (h63 : xs.length + ys.length ≤ 100000) (hbase : base ≤ w.heap.size)
    (h : ∀ v' w', OwnS E base w' v' (xs ++ ys) → w.grownBy w' v.ownBlock → K (a.put o.dst v') w') :
    if Region.wanted o (yielded ops a.tmps) = true then Oper.wp Try.prog o a w K Q else F := by
  have hw : Region.wanted o (yielded ops a.tmps) = true := by simp [Region.wanted, hgd]
  rw [if_pos hw]
  obtain ⟨v', w', hr, h2, h3⟩ := run_appS E T hT hk hz w base o.type hown hsrc h63 hby hbase
  unfold Oper.wp execOp
  simp only [ho, resolve, invoke, builtin, Sem.run_bind, Sem.run_pure, Result.andThen_ok, List.map_toArray, List.map_cons, List.map_nil, hs, hx, hr]
  exact h v' w' h2 h3
theorem readC_len {a b : List RcD} (h : readC a = readC b) : a.length = b.length := by
  have := congrArg List.length h
  simpa [readC] using this
theorem readC_ents {a b : List RcD} (h : readC a = readC b) : (a.map fun d => d.ents.length) = (b.map fun d => d.ents.length) := by
  have := congrArg (List.map fun r : RecD => r.ents.length) h
  simpa [readC, List.map_map, Function.comp_def, RcD.d] using this
theorem few_read {ds dx : List RcD} (h : FewI ds) (hr : readC dx = readC ds) : dx.length ≤ 40 ∧ (dx.map fun d => d.ents.length).sum ≤ 100 := by
  rw [readC_len hr, readC_ents hr]
  exact ⟨h.1, h.2.1⟩
/-- one record, laid into a block of its own -/
theorem ChO.one {base n : Nat} {w : World} (hn : w.heap.size = n) (hb : base ≤ n) {d : RcD} (hd : RcO base w d) : ChO base (w.alloc (recObj d.sc d.rv d.en)) (.slice (some ⟨n, 0, none⟩) 1 1) [d] := by
  have h := OwnS.lit lRec base w n hn [d] hb (show 1 ≤ maxLen by decide)
  have e : lRec.flat [d] = d.cells := by simp [Lay.flat, lRec]
  rw [e] at h
  refine ⟨h, fun x hx => ?_⟩
  obtain rfl : x = d := by simpa using hx
  exact hd.below (alloc_below0 w _)
/-- a record without rows and entries -/
theorem RcO.bare (base : Nat) (w : World) (s : Sc) (h : SzS s) : RcO base w ⟨s, none, 0, none, 0, [], []⟩ :=
  ⟨OwnS.nil _ _ _, OwnS.nil _ _ _, h, Small.nil, (fun _ h => by cases h), by show 32 * 0 ≤ _; decide, by show 24 * 0 ≤ _; decide⟩
/-- a chain behind a chain -/
theorem ChO.append {base b2 : Nat} {w w' : World} {v u v' : Value} {ds es : List RcD} (h : ChO base w v ds) (k : ChO b2 w u es) (hb : base ≤ b2) (ho : OwnS lRec base w' v' (ds ++ es)) (hg : w.grownBy w' v.ownBlock) : ChO base w' v' (ds ++ es) := by
  have hk : Kept (fun k => v.ownBlock = some k) w w' := (Kept.of_grown hg).wide fun _ _ h => h.symm
  have one : ∀ x, RcO base w x → RcO base w' x := fun x hx => hx.kept hk (OwnS.neB h.own hx.rows (show lRec.ty ≠ lRow.ty by decide)) (OwnS.neB h.own hx.ents (show lRec.ty ≠ lEnt.ty by decide))
  refine ⟨ho, fun x hx => ?_⟩
  rcases List.mem_append.1 hx with hx | hx
  · exact one x (h.all x hx)
  · have := (k.mono hb).all x hx
    exact one x this
theorem RecO.open {base : Nat} {w : World} {u : Value} {r : RecD} (h : RecO base w u r) : ∃ ra rc ea ec, u = recVal r.sc (.slice ra r.rows.length rc) (.slice ea r.ents.length ec) ∧ RcO base w ⟨r.sc, ra, rc, ea, ec, r.rows, r.ents⟩ := by
  obtain ⟨⟨sc, ra, rc, ea, ec, rows, ents⟩, h1, h2, rfl⟩ := h
  exact ⟨ra, rc, ea, ec, h1, h2⟩
theorem RcO.mono {b b' : Nat} {w : World} {d : RcD} (h : RcO b w d) (hb : b' ≤ b) : RcO b' w d := ⟨h.rows.mono hb, h.ents.mono hb, h.sz, h.smallR, h.smallE, h.fitR, h.fitE⟩
theorem VB.kept {S : Nat → Prop} {n : Nat} {v : IvD} {en : Value} {w w' : World} (h : VB n v en w) (hk : Kept S w w') (hn : ¬ S n) : VB n v en w' :=
  ⟨hk.cell hn h.c0, hk.cell hn h.c1, hk.cell hn h.c2, hk.cell hn h.c3, hk.cell hn h.c4, hk.cell hn h.c5, hk.cell hn h.c6, hk.cell hn h.c7, hk.cell hn h.c8⟩
theorem VB.of_blk {n : Nat} {v : IvD} {en : Value} {w : World} (h : w.heap[n]? = some (ivObj v en)) : VB n v en w :=
  ⟨by rw [blk_cell h]; rfl, by rw [blk_cell h]; rfl, by rw [blk_cell h]; rfl, by rw [blk_cell h]; rfl, by rw [blk_cell h]; rfl, by rw [blk_cell h]; rfl, by rw [blk_cell h]; rfl, by rw [blk_cell h]; rfl, by rw [blk_cell h]; rfl⟩
/-- block n is just so -/
structure HB (n : Nat) (o : Obj) (w : World) : Prop where
  b : w.heap[n]? = some o
theorem HB.below {n : Nat} {o : Obj} {w w' : World} (h : HB n o w) (hs : Below w.heap.size w w') : HB n o w' := ⟨blk_step h.b hs⟩
theorem HB.new (o : Obj) (w : World) : HB w.heap.size o (w.alloc o) := ⟨blk_new w o⟩
theorem HB.fst (o1 o2 : Obj) (w : World) : HB w.heap.size o1 ((w.alloc o1).alloc o2) := (HB.new o1 w).below (alloc_below0 _ _)
theorem HB.snd (o1 o2 : Obj) (w : World) : HB (w.heap.size + 1) o2 ((w.alloc o1).alloc o2) := by
  have h := HB.new o2 (w.alloc o1)
  have e : (w.alloc o1).heap.size = w.heap.size + 1 := by simp
  rw [e] at h
  exact h
theorem alloc2_below (w : World) (o1 o2 : Obj) : Below w.heap.size w ((w.alloc o1).alloc o2) := (alloc_below0 w o1).trans ((alloc_below0 _ _).mono (alloc_below0 w o1).size)
theorem HB.lt {n : Nat} {o : Obj} {w : World} (h : HB n o w) : n < w.heap.size := (Array.getElem?_eq_some_iff.1 h.b).1
theorem HB.grown {n : Nat} {o : Obj} {w w' : World} {row : Option Nat} (h : HB n o w) (hg : w.grownBy w' row) (hne : some n ≠ row) : HB n o w' := ⟨((Kept.of_grown hg).block n h.lt hne).trans h.b⟩
/-- a block that holds records without rows and entries is a chain -/
theorem ChO.of_blk {base n : Nat} {w : World} {ss : List Sc} (hb : base ≤ n) (h : HB n (.cells (lRec.flat (ss.map fun s => ⟨s, none, 0, none, 0, [], []⟩)).toArray 39) w) (hl : ss.length ≤ maxLen) (hs : ∀ s ∈ ss, SzS s) :
    ChO base w (.slice (some ⟨n, 0, none⟩) ss.length ss.length) (ss.map fun s => ⟨s, none, 0, none, 0, [], []⟩) := by
  refine ⟨⟨by rw [Lay.flat_len], .inr ⟨n, ss.length, (lRec.flat (ss.map fun s => ⟨s, none, 0, none, 0, [], []⟩)).toArray, by simp, hb, h.b, by simp, hl, by simp [lRec.flat_len], by rw [List.take_of_length_le]; simp [lRec.flat_len]⟩⟩, fun d hd => ?_⟩
  obtain ⟨s, h1, rfl⟩ := List.mem_map.1 hd
  exact RcO.bare base w s (hs s h1)
/-- the empty view's block, and what a view laid over it leaves -/
def ivZero : Obj := .cells #[.string ⟨#[]⟩, .string ⟨#[]⟩, .bool false, .int .i64 0, .slice none 0 0, .bool false, .int .i64 0, .int .i64 0, .string ⟨#[]⟩] 29
theorem codeI_zero {l : List RecD} : codeI l = 0 ↔ l.all innerB = true ∧ ∃ v, foldI l = some v := by
  unfold codeI
  split
  · next h =>
    cases hf : foldI l with
    | none => simp
    | some v => simp [h]
  · next h => simp [h]
theorem viewI_some {l : List RecD} {v : IvD} (hc : codeI l = 0) (hv : viewI l = v) : foldI l = some v := by
  obtain ⟨h1, u, h2⟩ := codeI_zero.1 hc
  unfold viewI at hv
  rw [if_pos h1, h2] at hv
  rw [h2, ← hv]; rfl
theorem code_yes {l : List RecD} {v : IvD} (h1 : l.all innerB = true) (h2 : foldI l = some v) : codeI l = 0 ∧ viewI l = v := by
  refine ⟨codeI_zero.2 ⟨h1, v, h2⟩, ?_⟩
  unfold viewI
  rw [if_pos h1, h2]; rfl
theorem code_no {l : List RecD} (h1 : l.all innerB = true) (h2 : foldI l = none) : codeI l = 10 ∧ viewI l = IvD.zero := by
  unfold codeI viewI
  rw [if_pos h1, if_pos h1, h2]
  exact ⟨rfl, rfl⟩
theorem viewI_bad {l : List RecD} {v : IvD} (hc : codeI l ≠ 0) (hv : viewI l = v) : risE none v.ents = true ∧ v.ents.length ≤ 1000 := by
  have e : v = IvD.zero := by
    rw [← hv]
    unfold viewI
    split
    · next h =>
      cases hf : foldI l with
      | none => rfl
      | some u => exact absurd (codeI_zero.2 ⟨h, u, hf⟩) hc
    · rfl
  rw [e]
  exact ⟨rfl, by decide⟩
theorem all_cons {l : List RecD} {r : RecD} (hr : innerB r = true) (hc : codeI l = 0) : (r :: l).all innerB = true := by
  rw [List.all_cons, hr, (codeI_zero.1 hc).1]; rfl
/-- all entries of a chain's records -/
def totalI (l : List RecD) : Nat := (l.map fun r => r.ents.length).sum
theorem totalI_read (ds : List RcD) : totalI (readC ds) = (ds.map fun d => d.ents.length).sum := by
  unfold totalI readC
  rw [List.map_map]; rfl
theorem step_lenI {v v' : IvD} {r : RecD} (g : GoodI v) (h : stepI v r = some v') : v'.ents.length ≤ v.ents.length + 1 := by
  unfold stepI at h
  split at h
  · cases h
  next hh =>
  split at h
  · next hk => exact Nat.le_of_eq (good_put g (by rw [show v.held = decide (r.sc.kind = 11) by simpa using hh, hk]; rfl) h).2.2.2
  split at h
  · unfold splitI at h
    split at h
    · obtain rfl := (Option.some.inj h).symm
      simp only [List.length_take]; omega
    · cases h
  split at h
  · unfold holdI at h
    split at h
    · split at h
      · obtain rfl := (Option.some.inj h).symm
        simp only; omega
      · cases h
    · cases h
  split at h
  · unfold dropI at h
    split at h
    · obtain rfl := (Option.some.inj h).symm
      simp only [List.length_append, List.length_take, List.length_drop]; omega
    · cases h
  · cases h
theorem fold_lenT : ∀ {l : List RecD} {v : IvD}, foldI l = some v → v.ents.length ≤ totalI l + l.length
  | [], _, h => by cases h
  | [r], v, h => by
    have h' : baseI r = some v := h
    unfold baseI at h'
    split at h'
    · obtain rfl := (Option.some.inj h').symm
      simp [totalI]
    · cases h'
  | r :: s :: l, v, h => by
    rw [foldI_cons r (by simp)] at h
    obtain ⟨u, hu, hs⟩ := Option.bind_eq_some_iff.1 h
    have h1 := fold_lenT hu
    have h2 := step_lenI (goodI_fold hu) hs
    have h3 : totalI (r :: s :: l) = r.ents.length + totalI (s :: l) := by simp [totalI]
    rw [h3]
    simp only [List.length_cons] at h1 ⊢
    omega
theorem fold_lenI {l : List RecD} {v : IvD} (h : foldI l = some v) (hb : totalI l + l.length ≤ 1000) : v.ents.length ≤ 1000 := Nat.le_trans (fold_lenT h) hb
theorem child_size {v : IvD} {k : ByteArray} {c : En} (h : childI v k = some c) (hz : SzI v) : c.1.size ≤ maxLen := by
  unfold childI at h
  split at h
  · exact hz.ents c (childL_mem h).1
  · cases h
end Go.Proofs.Ytkkmfacngmginaa
