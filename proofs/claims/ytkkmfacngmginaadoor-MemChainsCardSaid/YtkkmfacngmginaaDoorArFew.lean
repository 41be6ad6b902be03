/- The laws' own few, by a contract. -/
import Derived.Test.YtkkmfacngmginaaDoorMm
import Derived.Test.YtkkmfacngmginaaDoorArVal
import Derived.Deep.MidRow
import Derived.Lib.LazyBuf
namespace Go.Proofs.YtkkmfacngmginaaDoor
open Go.RowKit

/-- no slot was used more than K times -/
def Young (K : Nat) (ps : List Pt) : Prop := ∀ m, (slotOf ps m).1 ≤ K
theorem Young.nil : Young 0 [] := fun m => by rw [slotOf_nil]; exact Nat.le_refl _
theorem Young.mono {K K' : Nat} {ps : List Pt} (h : Young K ps) (hk : K ≤ K') : Young K' ps := fun m => Nat.le_trans (h m) hk
def freeB (ps : List Pt) (m : Nat) : Bool := !(slotOf ps m).2
theorem young_left {n l K : Nat} {ps : List Pt} (h : Young K ps) (hk : K < l) : leftM n l ps = cnt n (freeB ps) := by
  rw [leftM_cnt]
  refine cnt_congr n fun m _ _ => ?_
  unfold freeB
  rw [decide_eq_true (Nat.lt_of_le_of_lt (h m) hk), Bool.and_true]
theorem young_sum {n l K : Nat} {ps : List Pt} (h : Young K ps) (hk : K < l) : leftM n l ps + (liveM n ps).length = n := by
  rw [young_left h hk, liveM_len]
  have := cnt_not (usedB ps) n
  unfold usedB at this
  unfold freeB usedB
  omega
theorem alloc_counts {n l K : Nat} {ps : List Pt} (d : RecD) (hv : Valid n ps) (h : Young K ps) (hk : K + 1 < l) :
    (∃ i g : Nat, allocM n l ps = (i, g, 0) ∧ 0 < leftM n l ps ∧ leftM n l (putM n l ps d) + 1 = leftM n l ps ∧ Valid n (putM n l ps d) ∧ Young (K + 1) (putM n l ps d) ∧ (∀ j, 1 ≤ j → j < i → (slotOf ps j).2 = true) ∧ 1 ≤ i ∧ i ≤ n ∧ (slotOf ps i).2 = false)
    ∨ (∃ e : Int, allocM n l ps = (0, 0, e) ∧ (e = 3 ∨ e = 5) ∧ leftM n l ps = 0 ∧ putM n l ps d = ps ∧ ∀ j, 1 ≤ j → j ≤ n → (slotOf ps j).2 = true) := by
  have worn : ∀ j, ((slotOf ps j).2 = true ∨ ¬ (slotOf ps j).1 < l) → (slotOf ps j).2 = true := fun j hj => hj.elim id fun hn => absurd (Nat.lt_of_le_of_lt (h j) (by omega)) hn
  rcases allocM_spec n l ps with ⟨i, h1, h2, h3, h4, h5, h6⟩ | ⟨h1, e, h2, h3⟩
  · left
    have hput : putM n l ps d = ps ++ [⟨i, (slotOf ps i).1 + 1, d, true⟩] := by unfold putM; rw [h5]; rfl
    have hslot : ∀ m, slotOf (putM n l ps d) m = if i = m then ((slotOf ps i).1 + 1, true) else slotOf ps m := fun m => by rw [hput, slotOf_snoc]
    have hy : Young (K + 1) (putM n l ps d) := fun m => by
      rw [hslot]
      split
      · have := h i; simp only; omega
      · have := h m; omega
    refine ⟨i, _, h5, ?_, ?_, by rw [hput]; exact hv.put ⟨h1, h2⟩ h3, hy, fun j a b => worn j (h6 j a b), h1, h2, h3⟩
    · rw [young_left h (by omega), cnt_pos]
      exact ⟨i, h1, h2, by unfold freeB; rw [h3]; rfl⟩
    · rw [young_left hy hk, young_left h (by omega)]
      refine (cnt_one (i := i) ?_ ?_ (fun m hm => ?_) n h1 h2).symm
      · unfold freeB; rw [hslot, if_pos rfl]; rfl
      · unfold freeB; rw [h3]; rfl
      · unfold freeB; rw [hslot, if_neg (fun e => hm e.symm)]
  · right
    refine ⟨e, h3, h2, ?_, ?_, fun j a b => worn j (h1 j a b)⟩
    · rw [young_left h (by omega)]
      by_cases hc : 0 < cnt n (freeB ps)
      · obtain ⟨m, a, b, c⟩ := (cnt_pos n).1 hc
        unfold freeB at c
        rw [worn m (h1 m a b)] at c
        cases c
      · omega
    · unfold putM
      rw [h3, if_neg (by rcases h2 with rfl | rfl <;> simp)]
theorem free_counts {n l K : Nat} {ps : List Pt} (hv : Valid n ps) (h : Young K ps) (hk : K < l) (x y : Int) :
    (codeM n ps x y = 0 ∧ leftM n l (freeM n ps x y) = leftM n l ps + 1 ∧ (liveM n (freeM n ps x y)).length + 1 = (liveM n ps).length ∧ Valid n (freeM n ps x y) ∧ Young K (freeM n ps x y))
    ∨ ((codeM n ps x y = 1 ∨ codeM n ps x y = 4) ∧ freeM n ps x y = ps) := by
  by_cases hc : codeM n ps x y = 0
  · left
    obtain ⟨i, g, -, -, h1, h2, h3, h4, -, h5⟩ := free_some hv hc
    have hy : Young K (freeM n ps x y) := fun m => by
      rw [h5]
      split
      · have := h i; rw [h3] at this; exact this
      · exact h m
    refine ⟨hc, ?_, ?_, h4, hy⟩
    · rw [young_left hy hk, young_left h hk]
      refine cnt_one (i := i) ?_ ?_ (fun m hm => ?_) n h1 h2
      · unfold freeB; rw [h3]; rfl
      · unfold freeB; rw [h5, if_pos rfl]; rfl
      · unfold freeB; rw [h5, if_neg hm]
    · rw [liveM_len, liveM_len]
      refine (cnt_one (i := i) ?_ ?_ (fun m hm => ?_) n h1 h2).symm
      · unfold usedB; rw [h5, if_pos rfl]
      · unfold usedB; rw [h3]
      · unfold usedB; rw [h5, if_neg hm]
  · right
    refine ⟨?_, free_none hc⟩
    unfold codeM at hc ⊢
    split
    · exact .inl rfl
    · rename_i hr
      rw [if_neg hr] at hc
      split
      · exact .inr rfl
      · rename_i hn
        rw [if_neg hn] at hc
        exact absurd rfl hc

/-! ### Steps that came in -/
structure DoD where
  verb : Int
  sc : Sc
  ra : Option Addr
  rc : Nat
  ea : Option Addr
  ec : Nat
  rows : List Rw
  ents : List En
  x : Int
  y : Int
  last : Bool
  nn : Int
def DoD.rv (d : DoD) : Value := .slice d.ra d.rows.length d.rc
def DoD.en (d : DoD) : Value := .slice d.ea d.ents.length d.ec
def DoD.rcd (d : DoD) : RecD := ⟨d.sc, d.rows, d.ents⟩
def DoD.cells (d : DoD) : List Value := [.int .i64 d.verb, .int .i64 d.sc.kind, .string d.sc.low, .string d.sc.high, .bool d.sc.unb, .int .i64 d.sc.right, .slice d.ra d.rows.length d.rc, .slice d.ea d.ents.length d.ec, .string d.sc.key, .string d.sc.value, .int .i64 d.sc.page, .int .i64 d.sc.hp, .int .i64 d.sc.hl, .string d.sc.hk, .int .i64 d.sc.ns, .int .i64 d.sc.ng, .int .i64 d.x, .int .i64 d.y, .bool d.last, .int .u8 d.nn]
theorem DoD.cells_one (d : DoD) : ∀ u ∈ d.cells, u.oneCell' = true := fun u h => by
  simp only [DoD.cells, List.mem_cons, List.not_mem_nil, or_false] at h
  rcases h with h | h | h | h | h | h | h | h | h | h | h | h | h | h | h | h | h | h | h | h <;> subst h <;> rfl
def fewD (sl : Int) (ds : List DoD) : Bool := ds.all (fun d => decide (d.rows.length ≤ 60) && decide (d.ents.length ≤ 60)) && decide (ds.length ≤ 60) && (decide (sl ≤ 60) || decide (4096 < sl))

open Go.RowKit

theorem there_new (w : World) (zs : Array Value) (ty : TypeId) : (w.alloc (.cells zs ty)).there w.heap.size 0 zs.size := fun j hj => by
  refine ⟨?_, World.frozen?_alloc_at _ _ _ _ rfl⟩
  rw [World.cell?_alloc_at _ _ _ _ rfl, Nat.zero_add]
  simp [hj]
/-- a struct laid into a new block of its own -/
theorem put_new (w : World) (zs : Array Value) (ty : TypeId) (cs : List Value) (hn : zs.size = cs.length) :
    Below w.heap.size w ((w.alloc (.cells zs ty)).setCells w.heap.size 0 cs) ∧ ((w.alloc (.cells zs ty)).setCells w.heap.size 0 cs).rangeAt w.heap.size 0 cs :=
  ⟨below_setCells (Nat.le_refl _) cs 0 _ (alloc_below0 w _), World.rangeAt_setCells_same _ _ _ _ (hn ▸ there_new w zs ty)⟩
def okD (d : DoD) : Bool := decide (d.rows.length ≤ 60) && decide (d.ents.length ≤ 60)
theorem okD_no {ds : List DoD} {d : DoD} (hd : d ∈ ds) (h : okD d = false) (sl : Int) : fewD sl ds = false := by
  unfold fewD
  have : ds.all okD = false := by
    rw [List.all_eq_false]
    exact ⟨d, hd, by rw [h]; simp⟩
  show (ds.all okD && _ && _) = false
  rw [this]; rfl
theorem okD_all {ds : List DoD} (h : ds.all okD = true) (sl : Int) : fewD sl ds = (decide (ds.length ≤ 60) && (decide (sl ≤ 60) || decide (4096 < sl))) := by
  show (ds.all okD && _ && _) = _
  rw [h, Bool.true_and]
end Go.Proofs.YtkkmfacngmginaaDoor
