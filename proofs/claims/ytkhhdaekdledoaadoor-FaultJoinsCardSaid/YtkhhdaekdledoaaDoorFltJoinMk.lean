/- Trail over a fault over a join; errors.Is over a join; errors.Join of two errors, by contracts. -/
import Derived.Test.YtkhhdaekdledoaaDoorFltJoinAll
import Derived.Test.YtkhhdaekdledoaaDoorFltLawM
import Derived.WalkSpells
namespace Go.Proofs.YtkhhdaekdledoaaDoor
open Go.RowKit Go.Extern.Stop Go.Stop Go.Extern

theorem strInfo : (Tryd.prog.info? 9).map (fun i => (i.zero, i.size, i.bytes)) = some (some (.string ⟨#[]⟩), 1, 16) := by kernel_rfl

def TrailOf (w : World) (p : ByteArray) (e : Ending) (w' : World) : Prop := ∃ v, e = .returned v ∧ w'.ownsRow w.heap.size 9 1 v 1 [.string p] ∧ Below w.heap.size w w'

set_option maxRecDepth 100000 in
set_option maxHeartbeats 8000000 in
theorem Trail_over (b : Nat) (p : ByteArray) (la lb : List (ByteArray × Int)) (ca cb : Int) (e x y : Value) (w : World) (h0 : w.cell? ⟨b, 0, none⟩ = some (.string p)) (h2 : w.cell? ⟨b, 2, none⟩ = some e) (hj : Jn w e x y) (hx : Chn w x la ca) (hy : Chn w y lb cb) (hg : Glob w) :
    Calls Tryd.prog 14 #[.iface 50 (.pointer (some ⟨b, 0, none⟩))] w (TrailOf w p) := by
  have A : Aside (Jn w e x y ∧ Chn w x la ca ∧ Chn w y lb cb ∧ Glob w ∧ w.cell? ⟨b, 0, none⟩ = some (.string p) ∧ w.cell? ⟨b, 2, none⟩ = some e) := ⟨hj, hx, hy, hg, h0, h2⟩
  obtain ⟨i0, hi, hz⟩ := Option.map_eq_some_iff.1 strInfo
  simp only [Prod.mk.injEq] at hz
  obtain ⟨hz0, hz1, hz2⟩ := hz
  have I : Aside (Tryd.prog.info? 9 = some i0 ∧ i0.zero = some (.string ⟨#[]⟩) ∧ i0.size = 1 ∧ i0.bytes = 16) := ⟨hi, hz0, hz1, hz2⟩
  clear hj hx hy hg h0 h2 hi hz0 hz1 hz2
  have q1 := neqFJ
  have q2 := neqFF
  go_enter Tryd.func14, Tryd.ntmps14
  go_wp2
  refine wp_loop_rounds 2 ?_
  rw [rounds_succ]
  go_wp2_with fail
  refine (find_hit b _ A.out.2.2.2.1).mono ?_
  rintro ev w1 ⟨rfl, hs⟩
  have c0 : w1.cell? ⟨b, 0, none⟩ = some (.string p) := (hs.cell (p := ⟨b, 0, none⟩) (lt_of_cell A.out.2.2.2.2.1)).trans A.out.2.2.2.2.1
  have c2 : w1.cell? ⟨b, 2, none⟩ = some e := (hs.cell (p := ⟨b, 2, none⟩) (lt_of_cell A.out.2.2.2.2.2)).trans A.out.2.2.2.2.2
  have B : Aside (Below w.heap.size w w1) := hs
  have hbl := lt_of_cell c2
  clear hs
  go_wp2_with (at_builtin; go_must (refine wpList_append_own _ rfl (.tmp 20) (.tmp 25) 22 rfl w.heap.size 9 i0 (.string ⟨#[]⟩) 1 16 Tryd.underlying22 I.out.1 I.out.2.1 I.out.2.2.1 I.out.2.2.2 rfl (by decide) (.slice none 0 0) 0 [] rfl (World.ownsRow_nil _ _ _ _) ⟨w1.heap.size, 0, none⟩ 1 1 [.string p] rfl rfl ?c1 ?c2 ?c3 ?c4 ?c5 ?_))
  case c1 =>
    intro j u hj
    match j, hj with
    | 0, hj => simp at hj; subst hj; simp [Addr.add]
  case c2 => intro u hu; simp at hu; subst hu; rfl
  case c3 => unfold maxLen; omega
  case c4 => omega
  case c5 => have := B.out.size; simp; omega
  intro v' w2 ho hgr _
  have C : Aside (w2.ownsRow w.heap.size 9 1 v' 1 [.string p] ∧ Below w1.heap.size w1 w2) := ⟨ho, ((Below.refl _ _).alloc (Nat.le_refl _) _).grown hgr (by simp) (fun k hk => by cases hk)⟩
  have d2 : w2.cell? ⟨b, 2, none⟩ = some e := (C.out.2.cell (p := ⟨b, 2, none⟩) hbl).trans c2
  have D : Aside (Below w.heap.size w w2) := B.out.trans (C.out.2.mono B.out.size)
  clear ho hgr c0 c2 B
  have hd := find_join la lb ca cb e x y w2 (A.out.1.below D.out) (A.out.2.1.below D.out) (A.out.2.2.1.below D.out) (A.out.2.2.2.1.below D.out)
  obtain ⟨jb, g, cap, rfl, -, -, -⟩ := A.out.1
  rcases hd with ⟨-, hf⟩ | ⟨p, L, b, -, -, -, hf⟩
  all_goals
    have E : Aside (Calls _ _ _ _ _) := hf
    clear hf
    go_wp2
    rw [rounds_succ]
    go_wp2_with fail
    refine E.out.mono ?_
    rintro ev w3 ⟨rfl, hs⟩
    have F : Aside (Below w.heap.size w w3 ∧ Below w2.heap.size w2 w3) := ⟨D.out.trans (hs.mono D.out.size), hs⟩
    clear hs
    go_wp2
    go_ret
    exact ⟨_, rfl, by obtain ⟨h1, h2⟩ := C.out.1; refine ⟨h1, ?_⟩; rcases h2 with h2 | ⟨g, cap, cur, a, b, c, d⟩; exact .inl h2; exact .inr ⟨g, cap, cur, a, b, by rw [F.out.2.block g (by rcases Nat.lt_or_ge g w2.heap.size with h' | h'; exact h'; simp [Array.getElem?_eq_none h'] at c)]; exact c, d⟩, F.out.1⟩

/-- A join under way: block jb holds the slice v of the call's own, which holds xs. -/
def JB (B : Nat) (w : World) (jb : Nat) (v : Value) (xs : List Value) : Prop := w.heap[jb]? = some (.cells #[v] 62 (0, 0)) ∧ w.ownsRow B 30 1 v xs.length xs ∧ B ≤ jb
theorem heap_setCell_one {w : World} {b : Nat} {v u : Value} {t : TypeId} {f : Nat × Nat} (h : w.heap[b]? = some (.cells #[v] t f)) : (w.setCell ⟨b, 0, none⟩ u).heap[b]? = some (.cells #[u] t f) := by
  simp [World.setCell, Array.getElem?_modify, h]
theorem JB.own_ne {B : Nat} {w : World} {jb n : Nat} {v u : Value} {xs : List Value} (h : w.heap[jb]? = some (.cells #[u] 62 (0, 0))) (ho : w.ownsRow B 30 1 v n xs) : some jb ≠ v.ownBlock := by
  intro e
  obtain ⟨-, h2⟩ := ho
  rcases h2 with ⟨rfl, _⟩ | ⟨g, cap, cur, rfl, _, c, _⟩
  · cases e
  · obtain rfl : jb = g := by simpa [Value.ownBlock] using e
    rw [h] at c
    simp at c
theorem JB.push {B : Nat} {w w' : World} {jb : Nat} {v v' e : Value} {xs : List Value} (h : JB B w jb v xs) (o : Obj) (ho : w'.ownsRow B 30 1 v' (xs.length + 1) (xs ++ [e])) (hg : (w.alloc o).grownBy w' v.ownBlock) :
    w'.cell? ⟨jb, 0, none⟩ = some v ∧ w'.frozen? ⟨jb, 0, none⟩ = false ∧ JB B (w'.setCell ⟨jb, 0, none⟩ v') jb v' (xs ++ [e]) := by
  obtain ⟨h1, h2, h3⟩ := h
  have hh : w'.heap[jb]? = some (.cells #[v] 62 (0, 0)) := by
    rw [hg.block jb (by have := lt_of_heap h1; simp; omega) (JB.own_ne h1 h2), Below.heap_alloc _ _ _ (lt_of_heap h1)]; exact h1
  refine ⟨by simp [World.cell?, hh], by simp [World.frozen?, hh], heap_setCell_one hh, ?_, h3⟩
  have hne := JB.own_ne hh ho
  obtain ⟨k1, k2⟩ := ho
  refine ⟨by simp [k1], ?_⟩
  rcases k2 with ⟨rfl, k⟩ | ⟨g, cap, cur, rfl, a, b, c⟩
  · exact absurd k (by simp)
  · refine .inr ⟨g, cap, cur, by simp, a, ?_, by simpa using c⟩
    rw [Below.heap_setCell _ _ _ _ (fun e => hne (by simp [Value.ownBlock, e]))]; exact b

theorem JB.form {B : Nat} {w : World} {jb : Nat} {v : Value} {xs : List Value} (h : JB B w jb v xs) (hx : 0 < xs.length) : ∃ g cap, v = .slice (some ⟨g, 0, none⟩) xs.length cap := by
  obtain ⟨-, ⟨-, h2⟩, -⟩ := h
  rcases h2 with ⟨rfl, k⟩ | ⟨g, cap, cur, rfl, _⟩
  · omega
  · exact ⟨g, cap, rfl⟩
theorem JB.jn {B : Nat} {w : World} {jb g cap : Nat} {x y : Value} (h : JB B w jb (.slice (some ⟨g, 0, none⟩) 2 cap) [x, y]) : Jn w (.iface 60 (.pointer (some ⟨jb, 0, none⟩))) x y := by
  obtain ⟨h1, ⟨-, h2⟩, -⟩ := h
  rcases h2 with ⟨k, _⟩ | ⟨g', cap', cur, e, _, hc, _, _, _, ht⟩
  · cases k
  · injection e with e1 e2 e3
    have e1' : g = g' := by simpa using e1
    subst e1'
    have t0 : cur.toList[0]? = some x := by have := congrArg (fun l => l[0]?) ht; simpa [List.getElem?_take] using this
    have t1 : cur.toList[1]? = some y := by have := congrArg (fun l => l[1]?) ht; simpa [List.getElem?_take] using this
    refine ⟨jb, g, cap, rfl, by simp [World.cell?, h1], ?_, ?_⟩
    · simp [World.cell?, hc]; simpa using t0
    · simp [World.cell?, hc]; simpa using t1
theorem app_err {ops : Array Oper} {rest : List Oper} {o : Oper} {a : Act} {Q : Exit → Act → World → Prop} {w : World} (hgd : o.guard = none) (so xo : Operand)
    (ho : o.op = .call { callee := .builtin .append, args := #[so, xo], argTypes := #[46, 46] })
    (B jb u1 : Nat) (v v1 : Value) (xs : List Value) (hs : a.eval so = v) (hJ : JB B w jb v xs) (hx : a.eval xo = .slice (some ⟨w.heap.size, 0, none⟩) 1 1) (hn : xs.length ≤ 1000) (hB : B ≤ w.heap.size)
    (h : ∀ v' w', w'.cell? ⟨jb, 0, none⟩ = some v → w'.frozen? ⟨jb, 0, none⟩ = false → JB B (w'.setCell ⟨jb, 0, none⟩ v') jb v' (xs ++ [.iface u1 v1]) → Below B w w' → wpList Tryd.prog ops Q rest (a.put o.dst v') w') : wpList Tryd.prog ops Q (o :: rest) a (w.alloc (.cells #[.iface u1 v1] 30)) := by
  obtain ⟨i0, hi, hz⟩ := Option.map_eq_some_iff.1 errInfo
  simp only [Prod.mk.injEq] at hz
  refine wpList_append_own _ hgd so xo 46 ho B 30 i0 .nilIface 1 16 Tryd.underlying46 hi hz.1 hz.2.1 hz.2.2 rfl (by decide) v xs.length xs hs (hJ.2.1.alloc _) ⟨w.heap.size, 0, none⟩ 1 1 [.iface u1 v1] hx rfl ?_ ?_ (by unfold maxLen; omega) (by omega) (by simp; omega) ?_
  · intro j u hj
    match j, hj with
    | 0, hj => simp at hj; subst hj; simp [Addr.add]
  · intro u hu
    simp at hu; subst hu; rfl
  · intro v' w' ho' hg _
    obtain ⟨k1, k2, k3⟩ := hJ.push _ ho' hg
    exact h v' w' k1 k2 k3 (((Below.refl _ _).alloc hB _).grown hg (by simp; omega) (fun k hk => (hJ.2.1.lt k hk).1))

set_option maxRecDepth 100000 in
set_option maxHeartbeats 8000000 in
theorem Join_two (sb u1 u2 : Nat) (v1 v2 : Value) (w : World) (h0 : w.cell? ⟨sb, 0, none⟩ = some (.iface u1 v1)) (h1 : w.cell? ⟨sb, 1, none⟩ = some (.iface u2 v2)) :
    Calls Tryd.prog 15 #[.slice (some ⟨sb, 0, none⟩) 2 2] w fun ev w' => ∃ e, ev = .returned e ∧ Jn w' e (.iface u1 v1) (.iface u2 v2) ∧ Below w.heap.size w w' := by
  obtain ⟨i0, hi, hz⟩ := Option.map_eq_some_iff.1 errInfo
  simp only [Prod.mk.injEq] at hz
  obtain ⟨hz0, hz1, hz2⟩ := hz
  have I : Aside (Tryd.prog.info? 30 = some i0 ∧ i0.zero = some .nilIface ∧ i0.size = 1 ∧ i0.bytes = 16) := ⟨hi, hz0, hz1, hz2⟩
  clear hi hz0 hz1 hz2
  have hsb := lt_of_cell h0
  go_enter Tryd.func15, Tryd.ntmps15
  go_wp2
  refine wp_loop_rounds 3 ?_
  rw [rounds_succ]
  go_wp2
  rw [rounds_succ]
  go_wp2
  rw [rounds_succ]
  go_wp2_with (at_make; go_must (refine wpList_make_own _ rfl _ _ 46 rfl w.heap.size 30 i0 .nilIface 1 Tryd.underlying46 I.out.1 I.out.2.1 I.out.2.2.1 _ _ _ 2 rfl rfl (by omega) ?b2 ?b3 (Nat.le_refl _) ?_))
  case b2 => rw [I.out.2.2.2]; omega
  case b3 => unfold maxLen; omega
  intro w0 hown0 hgrow0
  have hb0 : Below w.heap.size w w0 := (Below.refl _ _).grown hgrow0 (Nat.le_refl _) (fun k hk => by cases hk)
  have hJ : JB w.heap.size (w0.alloc (.cells #[.slice (some ⟨w.heap.size, 0, none⟩) 0 2] 62)) w0.heap.size (.slice (some ⟨w.heap.size, 0, none⟩) 0 2) [] := ⟨heap_alloc_new _ _, hown0.alloc _, hb0.size⟩
  have hb1 : Below w.heap.size w (w0.alloc (.cells #[.slice (some ⟨w.heap.size, 0, none⟩) 0 2] 62)) := hb0.alloc hb0.size _
  have hz : w0.heap.size < (w0.alloc (.cells #[.slice (some ⟨w.heap.size, 0, none⟩) 0 2] 62)).heap.size := by simp
  clear hown0 hgrow0
  go_wp2
  generalize hjb : w0.heap.size = jb at *
  generalize hW : w0.alloc (.cells #[.slice (some ⟨w.heap.size, 0, none⟩) 0 2] 62) = W at *
  clear hW hjb
  have e0 := (hb1.cell (p := ⟨sb, 0, none⟩) hsb).trans h0
  have e1 := (hb1.cell (p := ⟨sb, 1, none⟩) hsb).trans h1
  have A : Aside (JB w.heap.size W jb _ [] ∧ Below w.heap.size w W) := ⟨hJ, hb1⟩
  have cj : W.cell? ⟨jb, 0, none⟩ = some (.slice (some ⟨w.heap.size, 0, none⟩) 0 2) := by simp [World.cell?, hJ.1]
  have hjl : w.heap.size ≤ jb := hJ.2.2
  have C0 : Aside (w.cell? ⟨sb, 0, none⟩ = some (.iface u1 v1) ∧ w.cell? ⟨sb, 1, none⟩ = some (.iface u2 v2)) := ⟨h0, h1⟩
  clear hJ hb1 hb0 h0 h1
  refine wp_loop_rounds 3 ?_
  rw [rounds_succ]
  go_wp2_with (at_builtin; go_must (refine app_err rfl (.tmp 38) (.tmp 40) rfl w.heap.size jb u1 _ v1 [] rfl A.out.1 rfl (by simp) A.out.2.size ?_))
  intro v3 w3 k1 k2 k3 k4
  obtain ⟨g3, c3, rfl⟩ : ∃ g cap, v3 = .slice (some ⟨g, 0, none⟩) 1 cap := k3.form (by simp)
  have B : Aside (JB w.heap.size (w3.setCell ⟨jb, 0, none⟩ (.slice (some ⟨g3, 0, none⟩) 1 c3)) jb (.slice (some ⟨g3, 0, none⟩) 1 c3) [.iface u1 v1] ∧ Below w.heap.size w (w3.setCell ⟨jb, 0, none⟩ (.slice (some ⟨g3, 0, none⟩) 1 c3))) := ⟨k3, (A.out.2.trans k4).setCell (p := ⟨jb, 0, none⟩) hjl _⟩
  have f1 := (B.out.2.cell (p := ⟨sb, 1, none⟩) hsb).trans C0.out.2
  have cj3 : (w3.setCell ⟨jb, 0, none⟩ (.slice (some ⟨g3, 0, none⟩) 1 c3)).cell? ⟨jb, 0, none⟩ = some (.slice (some ⟨g3, 0, none⟩) 1 c3) := by simp [World.cell?, k3.1]
  have hj3 : jb < w3.heap.size := lt_of_cell k1
  clear k3 k4 e0 e1 cj A
  go_wp2
  generalize w3.setCell ⟨jb, 0, none⟩ (.slice (some ⟨g3, 0, none⟩) 1 c3) = W3 at *
  have hj4 := lt_of_cell cj3
  clear k1 k2 hj3
  rw [rounds_succ]
  go_wp2_with (at_builtin; go_must (refine app_err rfl (.tmp 38) (.tmp 40) rfl w.heap.size jb u2 _ v2 [.iface u1 v1] rfl B.out.1 rfl (by simp) B.out.2.size ?_))
  intro v5 w5 k1 k2 k3 k4
  obtain ⟨g5, c5, rfl⟩ : ∃ g cap, v5 = .slice (some ⟨g, 0, none⟩) 2 cap := k3.form (by simp)
  have D : Aside (JB w.heap.size (w5.setCell ⟨jb, 0, none⟩ (.slice (some ⟨g5, 0, none⟩) 2 c5)) jb (.slice (some ⟨g5, 0, none⟩) 2 c5) [.iface u1 v1, .iface u2 v2] ∧ Below w.heap.size w (w5.setCell ⟨jb, 0, none⟩ (.slice (some ⟨g5, 0, none⟩) 2 c5))) := ⟨k3, (B.out.2.trans k4).setCell (p := ⟨jb, 0, none⟩) hjl _⟩
  have hj5 : jb < w5.heap.size := lt_of_cell k1
  clear k3 k4 f1 cj3 B
  go_wp2
  rw [rounds_succ]
  go_wp2
  go_ret
  exact ⟨_, rfl, D.out.1.jn, D.out.2⟩
end Go.Proofs.YtkhhdaekdledoaaDoor
