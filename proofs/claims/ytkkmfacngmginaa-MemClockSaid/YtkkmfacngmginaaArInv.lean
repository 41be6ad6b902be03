/- What an arena of package arena is in memory: its own block, its slots' block, the records' blocks; find, by contracts. -/
import Derived.Test.YtkkmfacngmginaaMm
import Derived.Test.YtkkmfacngmginaaArOwn
import Derived.Test.YtkkmfacngmginaaArSt
namespace Go.Proofs.Ytkkmfacngmginaa
open Go.RowKit

abbrev Sl := Int × Int × Option Addr
def lSlot : Lay Sl := ⟨145, 3, fun r => [.int .i64 r.1, .int .i64 r.2.1, .pointer r.2.2], fun _ => rfl, fun x u h => by simp at h; rcases h with rfl | rfl | rfl <;> rfl⟩
theorem slotInfo : (Try.prog.info? 145).map (fun i => (i.zero, i.size, i.bytes)) = some (some (.agg #[.int .i64 0, .int .i64 0, .pointer none]), 3, 24) := by kernel_rfl
theorem lSlot_known : lSlot.known 24 := known_of slotInfo rfl rfl
/-- a record behind a slot's pointer -/
structure RecS (w : World) (S : Nat → Prop) (g : Nat) (d : RecD) : Prop where
  here : S g
  len1 : d.rows.length ≤ 1000
  len2 : d.ents.length ≤ 1000
  mem : ∃ rv en, w.heap[g]? = some (recObj d.sc rv en) ∧ OwnS lRow 0 w rv d.rows ∧ OwnS lEnt 0 w en d.ents ∧ (∀ k, rv.ownBlock = some k → S k) ∧ (∀ k, en.ownBlock = some k → S k)
def PtrAt (w : World) (S : Nat → Prop) (p : Option Addr) : Option RecD → Prop
  | none => p = none
  | some d => ∃ g, p = some ⟨g, 0, none⟩ ∧ RecS w S g d
structure InvAt (w : World) (ab sb : Nat) (ss : List Sl) (S : Nat → Prop) (n l : Nat) (ps : List Pt) : Prop where
  ok : okN n l = true
  val : Valid n ps
  gen : GenLe l ps
  foot : ∀ k, S k → k < w.heap.size
  sA : S ab
  sB : S sb
  blkA : w.heap[ab]? = some (.cells #[.slice (some ⟨sb, 0, none⟩) n n, .int .i64 l] 151)
  own : OwnS lSlot 0 w (.slice (some ⟨sb, 0, none⟩) n n) ss
  len : ss.length = n
  each : ∀ i, i < n → ∃ p, ss[i]? = some (((i + 1 : Nat) : Int), ((stOf ps (i + 1)).1 : Int), p) ∧ PtrAt w S p (stOf ps (i + 1)).2
def ArInv (w : World) (a : Addr) (S : Nat → Prop) (n l : Nat) (ps : List Pt) : Prop := ∃ ab sb ss, a = ⟨ab, 0, none⟩ ∧ InvAt w ab sb ss S n l ps
theorem okN_of {n l : Nat} (h : okN n l = true) : 1 ≤ n ∧ n ≤ 4096 ∧ 1 ≤ l ∧ l ≤ 1099511627776 := by
  unfold okN at h
  simp only [Bool.and_eq_true, decide_eq_true_eq] at h
  omega
theorem RecS.keep {w w' : World} {S : Nat → Prop} {g : Nat} {d : RecD} (h : RecS w S g d) {T : Nat → Prop} (hk : Kept T w w') (hT : ∀ k, S k → ¬ T k ∨ ∃ cs U, w.heap[k]? = some (.cells cs U (0, 0)) ∧ U ≠ 39 ∧ U ≠ 133 ∧ U ≠ 44) : RecS w' S g d := by
  obtain ⟨rv, en, h1, h2, h3, h4, h5⟩ := h.mem
  refine ⟨h.here, h.len1, h.len2, rv, en, ?_, ?_, ?_, h4, h5⟩
  · rw [← h1]
    refine hk.block g (Array.getElem?_eq_some_iff.1 h1).1 ?_
    rcases hT g h.here with hn | ⟨cs, U, hc, n1, -⟩
    · exact hn
    · rw [h1] at hc
      simp only [recObj, Option.some.injEq, Obj.cells.injEq] at hc
      exact absurd hc.2.1.symm n1
  · refine OwnS.kept h2 hk fun a m c hv => ?_
    rcases hT a.block (h4 a.block (by rw [hv]; rfl)) with hn | ⟨cs, U, hc, -, n2, -⟩
    · exact hn
    · obtain ⟨-, h2⟩ := h2
      rcases h2 with ⟨e, -⟩ | ⟨g2, c2, u2, e, -, hg, -⟩
      · rw [hv] at e; cases e
      · rw [hv] at e
        obtain ⟨e, -, -⟩ := Value.slice.inj e
        obtain rfl := Option.some.inj e
        rw [hc] at hg
        simp only [Option.some.injEq, Obj.cells.injEq] at hg
        exact absurd hg.2.1 n2
  · refine OwnS.kept h3 hk fun a m c hv => ?_
    rcases hT a.block (h5 a.block (by rw [hv]; rfl)) with hn | ⟨cs, U, hc, -, -, n3⟩
    · exact hn
    · obtain ⟨-, h3⟩ := h3
      rcases h3 with ⟨e, -⟩ | ⟨g2, c2, u2, e, -, hg, -⟩
      · rw [hv] at e; cases e
      · rw [hv] at e
        obtain ⟨e, -, -⟩ := Value.slice.inj e
        obtain rfl := Option.some.inj e
        rw [hc] at hg
        simp only [Option.some.injEq, Obj.cells.injEq] at hg
        exact absurd hg.2.1 n3
theorem RecS.mono {w : World} {S S' : Nat → Prop} {g : Nat} {d : RecD} (h : RecS w S g d) (hs : ∀ k, S k → S' k) : RecS w S' g d := by
  obtain ⟨rv, en, h1, h2, h3, h4, h5⟩ := h.mem
  exact ⟨hs _ h.here, h.len1, h.len2, rv, en, h1, h2, h3, fun k hk => hs k (h4 k hk), fun k hk => hs k (h5 k hk)⟩
theorem PtrAt.keep {w w' : World} {S : Nat → Prop} {p : Option Addr} {o : Option RecD} (h : PtrAt w S p o) {T : Nat → Prop} (hk : Kept T w w') (hT : ∀ k, S k → ¬ T k ∨ ∃ cs U, w.heap[k]? = some (.cells cs U (0, 0)) ∧ U ≠ 39 ∧ U ≠ 133 ∧ U ≠ 44) : PtrAt w' S p o := by
  cases o with
  | none => exact h
  | some d => obtain ⟨g, e, r⟩ := h; exact ⟨g, e, r.keep hk hT⟩
theorem PtrAt.mono {w : World} {S S' : Nat → Prop} {p : Option Addr} {o : Option RecD} (h : PtrAt w S p o) (hs : ∀ k, S k → S' k) : PtrAt w S' p o := by
  cases o with
  | none => exact h
  | some d => obtain ⟨g, e, r⟩ := h; exact ⟨g, e, r.mono hs⟩
theorem InvAt.keep {w w' : World} {ab sb : Nat} {ss : List Sl} {S : Nat → Prop} {n l : Nat} {ps : List Pt} (h : InvAt w ab sb ss S n l ps) (hk : Kept (fun k => ¬ S k) w w') : InvAt w' ab sb ss S n l ps :=
  ⟨h.ok, h.val, h.gen, fun k hs => Nat.lt_of_lt_of_le (h.foot k hs) hk.size, h.sA, h.sB, (hk.block ab (h.foot _ h.sA) (fun hn => hn h.sA)).trans h.blkA,
    OwnS.kept h.own hk (fun a m c hv => by obtain ⟨e, -, -⟩ := Value.slice.inj hv; obtain rfl := Option.some.inj e; exact fun hn => hn h.sB), h.len,
    fun i hi => by obtain ⟨p, h1, h2⟩ := h.each i hi; exact ⟨p, h1, h2.keep hk (fun k hs => .inl (fun hn => hn hs))⟩⟩
theorem InvAt.low {w w' : World} {ab sb : Nat} {ss : List Sl} {S : Nat → Prop} {n l : Nat} {ps : List Pt} (h : InvAt w ab sb ss S n l ps) (hb : Below w.heap.size w w') : InvAt w' ab sb ss S n l ps :=
  h.keep ⟨hb.os, hb.tape, hb.output, hb.size, fun k hk _ => hb.block k hk⟩
/-- what is read at a slot -/
structure SlAt (w : World) (ab sb n i : Nat) (l g : Int) (p : Option Addr) : Prop where
  a0 : w.cell? ⟨ab, 0, none⟩ = some (.slice (some ⟨sb, 0, none⟩) n n)
  a1 : w.cell? ⟨ab, 1, none⟩ = some (.int .i64 l)
  c0 : w.cell? ⟨sb, i * 3, none⟩ = some (.int .i64 ((i : Int) + 1))
  c1 : w.cell? ⟨sb, i * 3 + 1, none⟩ = some (.int .i64 g)
  c2 : w.cell? ⟨sb, i * 3 + 2, none⟩ = some (.pointer p)
theorem SlAt.step {w w' : World} {ab sb n i : Nat} {l g : Int} {p : Option Addr} (h : SlAt w ab sb n i l g p) (hs : Below w.heap.size w w') : SlAt w' ab sb n i l g p :=
  ⟨cell_step h.a0 hs, cell_step h.a1 hs, cell_step h.c0 hs, cell_step h.c1 hs, cell_step h.c2 hs⟩
theorem InvAt.slot {w : World} {ab sb : Nat} {ss : List Sl} {S : Nat → Prop} {n l : Nat} {ps : List Pt} (h : InvAt w ab sb ss S n l ps) {i : Nat} (hi : i < n) : ∃ p, ss[i]? = some (((i + 1 : Nat) : Int), ((stOf ps (i + 1)).1 : Int), p) ∧ PtrAt w S p (stOf ps (i + 1)).2 ∧ SlAt w ab sb n i l (stOf ps (i + 1)).1 p := by
  obtain ⟨p, h1, h2⟩ := h.each i hi
  have sv := h.own.sv
  have x0 := sv.cellAt (j := 0) h1 rfl
  have x1 := sv.cellAt (j := 1) h1 rfl
  have x2 := sv.cellAt (j := 2) h1 rfl
  simp only [lSlot, Nat.zero_add, Nat.add_zero, Int.natCast_add] at x0 x1 x2
  exact ⟨p, h1, h2, blk_cell h.blkA 0, blk_cell h.blkA 1, x0, x1, x2⟩
end Go.Proofs.Ytkkmfacngmginaa
