/- Rows in memory (layer 3): a slice of rows that reads as a list of keys with values; one of a call's own; what append makes of them. -/
import Derived.Test.YtkbfhpgcjljbbaaDoorBkMath
import Derived.Test.YtkbfhpgcjljbbaaDoorProg
import Derived.Test.YtkbfhpgcjljbbaaDoorKit
import Derived.Deep.AppendLies
import Derived.Laws.OwnMore
import Derived.Lib.Hide
namespace Go.Proofs.YtkbfhpgcjljbbaaDoor
open Go.RowKit

abbrev Rw := ByteArray × ByteArray
def r0 : Rw := (⟨#[]⟩, ⟨#[]⟩)
/-- the cells of rows, one behind the other -/
def flat : List Rw → List Value
  | [] => []
  | r :: rs => .string r.1 :: .string r.2 :: flat rs
theorem flat_length : ∀ rs, (flat rs).length = rs.length * 2
  | [] => rfl
  | _ :: rs => by simp [flat, flat_length rs]; omega
theorem flat_append : ∀ a b, flat (a ++ b) = flat a ++ flat b
  | [], _ => rfl
  | r :: a, b => by simp [flat, flat_append a b]
theorem flat_take : ∀ (rs : List Rw) (k : Nat), (flat rs).take (k * 2) = flat (rs.take k)
  | [], _ => by simp [flat]
  | _ :: _, 0 => by simp [flat]
  | r :: rs, k + 1 => by rw [Nat.add_mul]; simp [flat, flat_take rs k]
theorem flat_at0 : ∀ (rs : List Rw) (i : Nat), i < rs.length → (flat rs)[i * 2]? = some (.string (rs.getD i r0).1)
  | [], _, h => by simp at h
  | _ :: _, 0, _ => by simp [flat]
  | r :: rs, i + 1, h => by
    rw [Nat.add_mul]
    have := flat_at0 rs i (by simpa using h)
    simpa [flat] using this
theorem flat_at1 : ∀ (rs : List Rw) (i : Nat), i < rs.length → (flat rs)[i * 2 + 1]? = some (.string (rs.getD i r0).2)
  | [], _, h => by simp at h
  | _ :: _, 0, _ => by simp [flat]
  | r :: rs, i + 1, h => by
    rw [Nat.add_mul]
    have := flat_at1 rs i (by simpa using h)
    simpa [flat] using this
theorem flat_one : ∀ (rs : List Rw), ∀ u ∈ flat rs, u.oneCell' = true
  | [], u, h => by simp [flat] at h
  | r :: rs, u, h => by
    simp [flat] at h
    rcases h with rfl | rfl | h
    · rfl
    · rfl
    · exact flat_one rs u h
theorem flat_inj : ∀ a b : List Rw, flat a = flat b → a = b
  | [], [], _ => rfl
  | [], _ :: _, h => by simp [flat] at h
  | _ :: _, [], h => by simp [flat] at h
  | r :: a, s :: b, h => by
    simp [flat] at h
    rw [flat_inj a b h.2.2]
    obtain ⟨r1, r2⟩ := r
    obtain ⟨s1, s2⟩ := s
    simp at h
    rw [h.1, h.2.1]

/-- no text of these rows is too long for any machine -/
def Small (rs : List Rw) : Prop := ∀ r ∈ rs, r.1.size ≤ maxLen ∧ r.2.size ≤ maxLen
/-- v reads as these rows. -/
def RowsV (w : World) (v : Value) (rs : List Rw) : Prop := ∃ (a : Option Addr) (cap : Nat), v = .slice a rs.length cap ∧ rs.length ≤ cap ∧ cap ≤ maxLen ∧ (a = none → cap = 0) ∧
  ∃ b off, (∀ x, a = some x → x = ⟨b, off, none⟩) ∧ (∀ j u, (flat rs)[j]? = some u → w.cell? ⟨b, off + j, none⟩ = some u) ∧ Small rs
theorem RowsV.below {w w' : World} {v : Value} {rs : List Rw} (hb : Below w.heap.size w w') (h : RowsV w v rs) : RowsV w' v rs := by
  obtain ⟨a, cap, h1, h2, h3, h4, b, off, h5, h6, h7⟩ := h
  refine ⟨a, cap, h1, h2, h3, h4, b, off, h5, fun j u hu => ?_, h7⟩
  have hc := h6 j u hu
  rw [hb.cell (p := ⟨b, off + j, none⟩) (lt_of_cell hc)]; exact hc
theorem RowsV.small {w : World} {v : Value} {rs : List Rw} (h : RowsV w v rs) : Small rs := by
  obtain ⟨_, _, _, _, _, _, _, _, _, _, h7⟩ := h
  exact h7
theorem Small.at {rs : List Rw} (h : Small rs) (i : Nat) : (rs.getD i r0).1.size ≤ maxLen ∧ (rs.getD i r0).2.size ≤ maxLen := by
  rw [List.getD]
  cases hi : rs[i]? with
  | none => exact ⟨by decide, by decide⟩
  | some r => exact h r (List.mem_of_getElem? hi)
/-- the form in which a walk takes rows that came in: nil, or an address with the cells of each row -/
theorem RowsV.form {w : World} {v : Value} {rs : List Rw} (h : RowsV w v rs) : (v = .slice none 0 0 ∧ rs = []) ∨
    ∃ b off cap, v = .slice (some ⟨b, off, none⟩) rs.length cap ∧ rs.length ≤ cap ∧ cap ≤ maxLen ∧
      ∀ i, i < rs.length → w.cell? ⟨b, off + i * 2, none⟩ = some (.string (rs.getD i r0).1) ∧ w.cell? ⟨b, off + i * 2 + 1, none⟩ = some (.string (rs.getD i r0).2) := by
  obtain ⟨a, cap, h1, h2, h3, h4, b, off, h5, h6, h7⟩ := h
  cases a with
  | none =>
    have hc := h4 rfl
    have hl : rs.length = 0 := by omega
    exact .inl ⟨by rw [h1, hc, hl], List.eq_nil_of_length_eq_zero hl⟩
  | some x =>
    obtain rfl := h5 x rfl
    exact .inr ⟨b, off, cap, h1, h2, h3, fun i hi => ⟨h6 _ _ (flat_at0 rs i hi), by rw [Nat.add_assoc]; exact h6 _ _ (flat_at1 rs i hi)⟩⟩
theorem RowsV.nil (w : World) : RowsV w (.slice none 0 0) [] := ⟨none, 0, rfl, by simp, by simp, fun _ => rfl, 0, 0, fun _ h => (by cases h), fun j u h => by simp [flat] at h, fun r h => by cases h⟩

/-- a row of a call's own, at base or behind it -/
def OwnR (base : Nat) (w : World) (v : Value) (rs : List Rw) : Prop := w.ownsRow base 90 2 v rs.length (flat rs)
theorem OwnR.rows {base : Nat} {w : World} {v : Value} {rs : List Rw} (h : OwnR base w v rs) (hs : Small rs) : RowsV w v rs := by
  obtain ⟨_, h⟩ := h
  rcases h with ⟨rfl, h0⟩ | ⟨g, cap, cur, rfl, hb, hg, hn, hm, hz, ht⟩
  · have : rs = [] := List.eq_nil_of_length_eq_zero h0
    subst this
    exact RowsV.nil w
  · refine ⟨_, cap, rfl, hn, hm, fun h => (by cases h), g, 0, fun x h => (Option.some.inj h).symm, fun j u hu => ?_, hs⟩
    rw [Nat.zero_add, cell_of_row w g j cur _ _ hg]
    rw [← ht] at hu
    have hj : j < rs.length * 2 := by
      have := (List.getElem?_eq_some_iff.1 hu).1
      rw [List.length_take] at this; omega
    rw [List.getElem?_take_of_lt hj] at hu
    simpa using hu
theorem OwnR.mono {b b' : Nat} {w : World} {v : Value} {rs : List Rw} (h : OwnR b w v rs) (hb : b' ≤ b) : OwnR b' w v rs :=
  ⟨h.1, h.2.imp id fun ⟨g, cap, cur, h1, h2, h3⟩ => ⟨g, cap, cur, h1, Nat.le_trans hb h2, h3⟩⟩
theorem OwnR.nil (base : Nat) (w : World) : OwnR base w (.slice none 0 0) [] := World.ownsRow_nil w base _ 2
/-- an empty literal -/
theorem OwnR.empty (base : Nat) (w : World) (hb : base ≤ w.heap.size) : OwnR base (w.alloc (.cells #[] 90)) (.slice (some ⟨w.heap.size, 0, none⟩) 0 0) [] :=
  World.ownsRow_made w #[] 0 hb (by simp) (by simp)
theorem Small.append {a b : List Rw} (ha : Small a) (hb : Small b) : Small (a ++ b) := fun r hr => (List.mem_append.1 hr).elim (ha r) (hb r)
theorem Small.take {a : List Rw} (h : Small a) (k : Nat) : Small (a.take k) := fun r hr => h r (List.mem_of_mem_take hr)
theorem Small.drop {a : List Rw} (h : Small a) (k : Nat) : Small (a.drop k) := fun r hr => h r (List.mem_of_mem_drop hr)
theorem Small.cons {k x : ByteArray} {a : List Rw} (hk : k.size ≤ maxLen) (hx : x.size ≤ maxLen) (h : Small a) : Small ((k, x) :: a) := fun r hr => (List.mem_cons.1 hr).elim (fun e => by subst e; exact ⟨hk, hx⟩) (h r)
theorem Small.nil : Small [] := fun r h => by cases h
theorem rowInfo0 : (Tryd.prog.info? 90).map (fun i => (i.zero, i.size, i.bytes)) = some (some (.agg #[.string ⟨#[]⟩, .string ⟨#[]⟩]), 2, 32) := by kernel_rfl
theorem rowInfo : ∃ i z, Tryd.prog.info? 90 = some i ∧ i.zero = some z ∧ i.size = 2 ∧ i.bytes = 32 ∧ z.cells.size = 2 := by
  obtain ⟨i, hi, h⟩ := Option.map_eq_some_iff.1 rowInfo0
  simp only [Prod.mk.injEq] at h
  exact ⟨i, _, hi, h.1, h.2.1, h.2.2, rfl⟩

theorem alloc_below0 (w : World) (o : Obj) : Below w.heap.size w (w.alloc o) := (Below.refl _ _).alloc (Nat.le_refl _) _
/-- APPEND, whatever rows are appended to rows of the call's own. -/
theorem run_app (w : World) (base : Nat) (ty : TypeId) {v xv : Value} {rs ss : List Rw} (ho : OwnR base w v rs) (hx : RowsV w xv ss) (h63 : rs.length + ss.length ≤ 100000) (hbase : base ≤ w.heap.size) :
    ∃ v' w', (Builtin.append_ #[88, 88] ty #[v, xv]).run Tryd.prog w = .ok v' w' ∧ OwnR base w' v' (rs ++ ss) ∧ w.grownBy w' v.ownBlock := by
  obtain ⟨i, z, hi, hz, hsz, hby, hzs⟩ := rowInfo
  rcases hx.form with ⟨rfl, rfl⟩ | ⟨b, off, cap, rfl, hlc, hcm, -⟩
  · refine ⟨v, w, run_append_owned_none w base 88 ty 90 i 2 Tryd.underlying88 hi v rs.length (flat rs) ho, by rw [List.append_nil]; exact ho, ⟨rfl, rfl, rfl, Nat.le_refl _, fun _ _ _ => rfl⟩⟩
  · obtain ⟨a, cap', e1, -, -, -, b', off', h5, h6, -⟩ := hx
    have e2 : a = some ⟨b, off, none⟩ := by simpa using (Value.slice.inj e1).1.symm
    have e3 := h5 _ e2
    have eb : b' = b ∧ off' = off := by simpa [eq_comm] using e3
    obtain ⟨rfl, rfl⟩ := eb
    obtain ⟨v', w', hr, h2, h3, -⟩ := run_append_own (P := Tryd.prog) w base 88 ty 90 i z 2 32 Tryd.underlying88 hi hz hsz hby hzs (by decide) v rs.length (flat rs) ho
      ⟨b', off', none⟩ ss.length cap (flat ss) (flat_length ss) (fun j u hu => by
        rw [Addr.add_lit]; exact h6 j u hu) (flat_one ss) (by simp [maxLen]; omega) (by omega) hbase
    refine ⟨v', w', hr, ?_, h3⟩
    unfold OwnR
    rw [flat_append, List.length_append]
    exact h2
theorem wpList_app {ops : Array Oper} {rest : List Oper} {o : Oper} {a : Act} {w : World} {Q : Exit → Act → World → Prop} (hgd : o.guard = none) (s x : Operand)
    (ho : o.op = .call { callee := .builtin .append, args := #[s, x], argTypes := #[88, 88] }) (base : Nat) {v xv : Value} {rs ss : List Rw}
    (hs : a.eval s = v) (hx : a.eval x = xv) (hown : OwnR base w v rs) (hsrc : RowsV w xv ss) (h63 : rs.length + ss.length ≤ 100000) (hbase : base ≤ w.heap.size)
    (h : ∀ v' w', OwnR base w' v' (rs ++ ss) → w.grownBy w' v.ownBlock → wpList Tryd.prog ops Q rest (a.put o.dst v') w') : wpList Tryd.prog ops Q (o :: rest) a w := by
  refine wpList_plain hgd fun K hK => ?_
  obtain ⟨v', w', hr, h2, h3⟩ := run_app w base o.type hown hsrc h63 hbase
  unfold Oper.wp execOp
  simp only [ho, resolve, invoke, builtin, Sem.run_bind, Sem.run_pure, Result.andThen_ok, List.map_toArray, List.map_cons, List.map_nil, hs, hx, hr]
  exact hK _ _ (h v' w' h2 h3)
theorem step_app {ops : Array Oper} {o : Oper} {a : Act} {w : World} {K : Act → World → Prop} {Q : Exit → Act → World → Prop} {E : Prop} (hgd : o.guard = none) (s x : Operand)
    (ho : o.op = .call { callee := .builtin .append, args := #[s, x], argTypes := #[88, 88] }) (base : Nat) {v xv : Value} {rs ss : List Rw}
    (hs : a.eval s = v) (hx : a.eval x = xv) (hown : OwnR base w v rs) (hsrc : RowsV w xv ss) (h63 : rs.length + ss.length ≤ 100000) (hbase : base ≤ w.heap.size)
    (h : ∀ v' w', OwnR base w' v' (rs ++ ss) → w.grownBy w' v.ownBlock → K (a.put o.dst v') w') :
    if Region.wanted o (yielded ops a.tmps) = true then Oper.wp Tryd.prog o a w K Q else E := by
  have hw : Region.wanted o (yielded ops a.tmps) = true := by simp [Region.wanted, hgd]
  rw [if_pos hw]
  obtain ⟨v', w', hr, h2, h3⟩ := run_app w base o.type hown hsrc h63 hbase
  unfold Oper.wp execOp
  simp only [ho, resolve, invoke, builtin, Sem.run_bind, Sem.run_pure, Result.andThen_ok, List.map_toArray, List.map_cons, List.map_nil, hs, hx, hr]
  exact h v' w' h2 h3
/-- a beginning of rows, and the rest of them, as a walk cuts them -/
theorem RowsV.takeV {w : World} {a : Option Addr} {n cap k : Nat} {rs : List Rw} (h : RowsV w (.slice a n cap) rs) (hk : k ≤ rs.length) : RowsV w (.slice a k cap) (rs.take k) := by
  obtain ⟨a', cap', h1, h2, h3, h4, b, off, h5, h6, h7⟩ := h
  obtain ⟨rfl, rfl, rfl⟩ : a = a' ∧ n = rs.length ∧ cap = cap' := by simpa using h1
  refine ⟨a, cap, by rw [List.length_take, Nat.min_eq_left hk], by rw [List.length_take]; omega, h3, h4, b, off, h5, fun j u hu => ?_, h7.take k⟩
  rw [← flat_take] at hu
  have hj : j < k * 2 := by
    have := (List.getElem?_eq_some_iff.1 hu).1
    rw [List.length_take] at this; omega
  rw [List.getElem?_take_of_lt hj] at hu
  exact h6 j u hu
theorem flat_drop : ∀ (rs : List Rw) (k : Nat), (flat rs).drop (k * 2) = flat (rs.drop k)
  | [], _ => by simp [flat]
  | _ :: _, 0 => by simp [flat]
  | r :: rs, k + 1 => by rw [Nat.add_mul]; simp [flat, flat_drop rs k]
theorem RowsV.dropV {w : World} {b off n cap k : Nat} {rs : List Rw} (h : RowsV w (.slice (some ⟨b, off, none⟩) n cap) rs) (hk : k ≤ rs.length) : RowsV w (.slice (some ⟨b, off + k * 2, none⟩) (rs.length - k) (cap - k)) (rs.drop k) := by
  obtain ⟨a', cap', h1, h2, h3, h4, b', off', h5, h6, h7⟩ := h
  obtain ⟨e, rfl, rfl⟩ : some ⟨b, off, none⟩ = a' ∧ n = rs.length ∧ cap = cap' := by simpa using h1
  subst e
  have e2 := h5 _ rfl
  obtain ⟨rfl, rfl⟩ : b = b' ∧ off = off' := by simpa using e2
  refine ⟨_, cap - k, by rw [List.length_drop], by rw [List.length_drop]; omega, by omega, fun h => (by cases h), b, off + k * 2, fun x hx => (Option.some.inj hx).symm, fun j u hu => ?_, h7.drop k⟩
  rw [← flat_drop, List.getElem?_drop] at hu
  rw [Nat.add_assoc]
  exact h6 _ u hu
/-- .. in the form in which a walk leaves it -/
theorem RowsV.dropI {w : World} {b off n cap k : Nat} {rs : List Rw} (h : RowsV w (.slice (some ⟨b, off, none⟩) n cap) rs) (hk : k ≤ rs.length) :
    RowsV w (.slice (if cap = k then some ⟨b, off, none⟩ else some ⟨b, off + k * 2, none⟩) (rs.length - k) (cap - k)) (rs.drop k) := by
  by_cases e : cap = k
  · obtain ⟨a', cap', h1, h2, h3, h4, b', off', h5, h6, h7⟩ := h
    obtain ⟨_, rfl, rfl⟩ : some ⟨b, off, none⟩ = a' ∧ n = rs.length ∧ cap = cap' := by simpa using h1
    have e2 : k = rs.length := by omega
    rw [if_pos e, List.drop_of_length_le (by omega), show rs.length - k = 0 by omega, show cap - k = 0 by omega]
    exact ⟨some ⟨b, off, none⟩, 0, rfl, Nat.le_refl _, by decide, fun h => (by cases h), b, off, fun x hx => (Option.some.inj hx).symm, fun j u hu => by simp [flat] at hu, Small.nil⟩
  · rw [if_neg e]; exact h.dropV hk
theorem OwnR.emptyAt (base n : Nat) (w : World) (hn : w.heap.size = n) (hb : base ≤ n) : OwnR base (w.alloc (.cells #[] 90)) (.slice (some ⟨n, 0, none⟩) 0 0) [] := hn ▸ OwnR.empty base w (hn ▸ hb)
theorem OwnR.alloc {base : Nat} {w : World} {v : Value} {rs : List Rw} (h : OwnR base w v rs) (o : Obj) : OwnR base (w.alloc o) v rs := by
  obtain ⟨h0, h⟩ := h
  refine ⟨h0, h.imp id ?_⟩
  rintro ⟨g, cap, cur, h1, h2, h3, h4⟩
  refine ⟨g, cap, cur, h1, h2, ?_, h4⟩
  have hlt : g < w.heap.size := (Array.getElem?_eq_some_iff.1 h3).1
  rw [show (w.alloc o).heap[g]? = w.heap[g]? by show (w.heap.push o)[g]? = _; rw [Array.getElem?_push, if_neg (Nat.ne_of_lt hlt)]]; exact h3
theorem OwnR.below {base : Nat} {w w' : World} {v : Value} {rs : List Rw} (h : OwnR base w v rs) (hs : Below w.heap.size w w') : OwnR base w' v rs := by
  obtain ⟨h0, h⟩ := h
  refine ⟨h0, h.imp id ?_⟩
  rintro ⟨g, cap, cur, h1, h2, h3, h4⟩
  exact ⟨g, cap, cur, h1, h2, (hs.block g (Array.getElem?_eq_some_iff.1 h3).1).trans h3, h4⟩
theorem OwnR.drew {base : Nat} {w : World} {v : Value} {rs : List Rw} (h : OwnR base w v rs) : OwnR base w.drew v rs := h
/-- one row, laid in a block of its own -/
theorem RowsV.one (w : World) (n : Nat) (hn : w.heap.size = n) (k x : ByteArray) (hk : k.size ≤ maxLen) (hx : x.size ≤ maxLen) : RowsV (w.alloc (.cells #[.string k, .string x] 90)) (.slice (some ⟨n, 0, none⟩) 1 1) [(k, x)] := by
  subst hn
  refine ⟨_, 1, rfl, Nat.le_refl _, by decide, fun h => (by cases h), w.heap.size, 0, fun x hx => (Option.some.inj hx).symm, fun j u hu => ?_, fun r hr => ?_⟩
  · rw [World.cell?_alloc_at _ _ _ _ rfl]
    simpa [flat] using hu
  · simp at hr; subst hr; exact ⟨hk, hx⟩
theorem OwnR.oneAt (base n : Nat) (w : World) (hn : w.heap.size = n) (hb : base ≤ n) (k x : ByteArray) : OwnR base (w.alloc (.cells #[.string k, .string x] 90)) (.slice (some ⟨n, 0, none⟩) 1 1) [(k, x)] := by
  subst hn
  exact ⟨rfl, .inr ⟨w.heap.size, 1, #[.string k, .string x], rfl, hb, Go.heap_alloc_new w _, Nat.le_refl _, by decide, rfl, rfl⟩⟩
theorem Small.filter {a : List Rw} (h : Small a) (p : Rw → Bool) : Small (a.filter p) := fun r hr => h r (List.mem_filter.1 hr).1
theorem Small.reverse {a : List Rw} (h : Small a) : Small a.reverse := fun r hr => h r (List.mem_reverse.1 hr)
theorem RowsV.alloc {w : World} {v : Value} {rs : List Rw} (h : RowsV w v rs) (o : Obj) : RowsV (w.alloc o) v rs := h.below (alloc_below0 w o)
theorem RowsV.drew {w : World} {v : Value} {rs : List Rw} (h : RowsV w v rs) : RowsV w.drew v rs := h.below (Below.refl _ _).drew
/-- rows that lie elsewhere are as they were behind an append -/
theorem RowsV.grown {w w' : World} {b off n cap : Nat} {row : Option Nat} {rs : List Rw} (h : RowsV w (.slice (some ⟨b, off, none⟩) n cap) rs) (hg : w.grownBy w' row) (hne : some b ≠ row) : RowsV w' (.slice (some ⟨b, off, none⟩) n cap) rs := by
  obtain ⟨a, cap', h1, h2, h3, h4, b', off', h5, h6, h7⟩ := h
  obtain ⟨e, e3, e4⟩ : some ⟨b, off, none⟩ = a ∧ n = rs.length ∧ cap = cap' := by simpa using h1
  have e2 := h5 _ e.symm
  obtain ⟨rfl, rfl⟩ : b = b' ∧ off = off' := by simpa using e2
  refine ⟨a, cap', h1, h2, h3, h4, b, off, h5, fun j u hu => ?_, h7⟩
  have hc := h6 j u hu
  rw [hg.cell_far ⟨b, off + j, none⟩ (lt_of_cell hc) hne]; exact hc
/-- what an append leaves as it was -/
theorem app_below {n : Nat} {w0 w w' : World} {base : Nat} {v : Value} {rs : List Rw} (hb : Below n w0 w) (ho : OwnR base w v rs) (hn : n ≤ base) (hw : n ≤ w.heap.size) (hg : w.grownBy w' v.ownBlock) : Below n w0 w' :=
  hb.grown hg hw (fun k hk => Nat.le_trans hn (World.ownsRow.lt ho k hk).1)
end Go.Proofs.YtkbfhpgcjljbbaaDoor
