/- The walk of the law FaultWorst. -/
import Derived.Test.YtkhhdaekdledoaaDoorFltWorstF
import Derived.Lib.Hide
import Derived.WalkSpells
namespace Go.Proofs.YtkhhdaekdledoaaDoor
open Go.RowKit Go.Extern.Stop Go.Stop Go.Extern

/-- v is a slice of the call's own, of these errors. -/
def OwnE (B : Nat) (w : World) (v : Value) (s : List (Option (Int × Int))) : Prop :=
  ∃ xs, w.ownsRow B 30 1 v s.length xs ∧ xs.length = s.length ∧ ∀ j (h : j < s.length), ∃ e, xs[j]? = some e ∧ Elm w e s[j]
theorem OwnE.nil (B : Nat) (w : World) : OwnE B w (.slice none 0 0) [] := ⟨[], World.ownsRow_nil _ _ _ _, rfl, fun j h => absurd h (by simp)⟩
theorem ownsRow_below {w w' : World} {base : Nat} {e : TypeId} {size : Nat} {v : Value} {n : Nat} {xs : List Value} (h : w.ownsRow base e size v n xs) (hb : Below w.heap.size w w') : w'.ownsRow base e size v n xs := by
  obtain ⟨h1, h2⟩ := h
  refine ⟨h1, ?_⟩
  rcases h2 with h2 | ⟨g, cap, cur, a, b, c, d⟩
  · exact .inl h2
  · exact .inr ⟨g, cap, cur, a, b, by rw [hb.block g (lt_of_heap c)]; exact c, d⟩
theorem OwnE.below {B : Nat} {w w' : World} {v : Value} {s : List (Option (Int × Int))} (hb : Below w.heap.size w w') (h : OwnE B w v s) : OwnE B w' v s := by
  obtain ⟨xs, h1, h2, h3⟩ := h
  refine ⟨xs, ownsRow_below h1 hb, h2, fun j hj => ?_⟩
  obtain ⟨e, he, hE⟩ := h3 j hj
  exact ⟨e, he, hE.below hb⟩
theorem OwnE.lt {B : Nat} {w : World} {v : Value} {s : List (Option (Int × Int))} (h : OwnE B w v s) : ∀ k, v.ownBlock = some k → B ≤ k := by
  obtain ⟨xs, h1, _⟩ := h
  exact fun k hk => (h1.lt k hk).1
/-- An element is in no row of errors. -/
theorem Elm.grown {B : Nat} {w w' : World} {v e : Value} {n : Nat} {xs : List Value} {x : Option (Int × Int)} (hown : w.ownsRow B 30 1 v n xs) (hg : w.grownBy w' v.ownBlock) (h : Elm w e x) : Elm w' e x := by
  cases x with
  | none => exact h
  | some x =>
    obtain ⟨b, he, hh⟩ := h
    refine ⟨b, he, ?_⟩
    rw [hg.block b (lt_of_heap hh) ?_]
    · exact hh
    · intro hb
      obtain ⟨_, h2⟩ := hown
      rcases h2 with ⟨rfl, _⟩ | ⟨g, cap, cur, rfl, _, c, _⟩
      · cases hb
      · obtain rfl : b = g := by simpa [Value.ownBlock] using hb
        rw [hh] at c
        simp at c
theorem OwnE.push {B : Nat} {w w' : World} {v v' e : Value} {s : List (Option (Int × Int))} {x : Option (Int × Int)} {xs : List Value} (hown : w.ownsRow B 30 1 v s.length xs) (hl : xs.length = s.length)
    (hE : ∀ j (h : j < s.length), ∃ e, xs[j]? = some e ∧ Elm w e s[j]) (he : Elm w e x) (hown' : w'.ownsRow B 30 1 v' (s.length + 1) (xs ++ [e])) (hg : w.grownBy w' v.ownBlock) : OwnE B w' v' (s ++ [x]) := by
  refine ⟨xs ++ [e], by simpa using hown', by simp [hl], fun j hj => ?_⟩
  by_cases h : j < s.length
  · obtain ⟨u, hu, hE'⟩ := hE j h
    refine ⟨u, by rw [List.getElem?_append_left (by omega)]; exact hu, ?_⟩
    rw [List.getElem_append_left h]
    exact hE'.grown hown hg
  · have hj' : j = s.length := by simp at hj; omega
    subst hj'
    refine ⟨e, by rw [← hl]; simp, ?_⟩
    simpa using he.grown hown hg
theorem OwnE.errs {B : Nat} {w : World} {v : Value} {s : List (Option (Int × Int))} (h : OwnE B w v s) (hs : s.length ≤ 1000) : ErrsV w v s := by
  obtain ⟨xs, ⟨h1, h2⟩, h3, h4⟩ := h
  rcases h2 with ⟨rfl, hn⟩ | ⟨g, cap, cur, rfl, hb, hc, hcap, _, hsz, hcur⟩
  · exact ⟨none, 0, by rw [hn], hs, fun i hi => absurd hi (by omega)⟩
  · refine ⟨some ⟨g, 0, none⟩, cap, rfl, hs, fun i hi => ?_⟩
    obtain ⟨e, he, hE⟩ := h4 i hi
    refine ⟨g, 0, e, rfl, ?_, hE⟩
    rw [← hcur, List.getElem?_take_of_lt (by omega)] at he
    simp [World.cell?, hc, Nat.zero_add]
    simpa using he

theorem errInfo : (Tryd.prog.info? 30).map (fun i => (i.zero, i.size, i.bytes)) = some (some .nilIface, 1, 16) := by kernel_rfl

/-- append of one error to such a slice. -/
theorem app_own {ops : Array Oper} {rest : List Oper} {o : Oper} {a : Act} {Q : Exit → Act → World → Prop} {w : World} (hgd : o.guard = none) (so xo : Operand)
    (ho : o.op = .call { callee := .builtin .append, args := #[so, xo], argTypes := #[46, 46] })
    (B : Nat) (v e : Value) (s : List (Option (Int × Int))) (x : Option (Int × Int)) (hs : a.eval so = v) (hO : OwnE B w v s) (hx : a.eval xo = .slice (some ⟨w.heap.size, 0, none⟩) 1 1) (he : Elm w e x) (hn : s.length ≤ 1000) (hB : B ≤ w.heap.size)
    (h : ∀ v' w', OwnE B w' v' (s ++ [x]) → Below B w w' → wpList Tryd.prog ops Q rest (a.put o.dst v') w') : wpList Tryd.prog ops Q (o :: rest) a (w.alloc (.cells #[e] 30)) := by
  have hb0 : Below w.heap.size w (w.alloc (.cells #[e] 30)) := (Below.refl _ _).alloc (Nat.le_refl _) _
  have hlt := hO.lt
  obtain ⟨xs, h1, h2, h3⟩ := hO.below hb0
  obtain ⟨i0, hi, hz⟩ := Option.map_eq_some_iff.1 errInfo
  simp only [Prod.mk.injEq] at hz
  refine wpList_append_own _ hgd so xo 46 ho B 30 i0 .nilIface 1 16 Tryd.underlying46 hi hz.1 hz.2.1 hz.2.2 rfl (by decide) v s.length xs hs h1 ⟨w.heap.size, 0, none⟩ 1 1 [e] hx rfl ?_ ?_ (by unfold maxLen; omega) (by omega) (by simp; omega) ?_
  · intro j u hj
    match j, hj with
    | 0, hj => simp at hj; subst hj; simp [Addr.add]
  · intro u hu
    simp at hu; subst hu
    cases x with
    | none => rw [show u = .nilIface from he]; rfl
    | some x => obtain ⟨b, he, _⟩ := he; rw [he]; rfl
  · intro v' w' ho' hg _
    refine h v' w' (OwnE.push h1 h2 h3 (he.below hb0) ho' hg) ?_
    exact (hb0.mono hB).grown hg (by simp; omega) hlt

set_option maxRecDepth 100000 in
set_option maxHeartbeats 8000000 in
theorem lawWorst (v : Value) (l : List Int) (n : Int) (w : World) (hg : Glob w) (hl : IntsV w v l) (hn : 0 ≤ n ∧ n ≤ 255) :
    Calls Tryd.prog 6 #[v, .int .u8 n] w fun ev w' => ev = .returned (.bool true) ∧ Below w.heap.size w w' := by
  have L : Aside (Glob w ∧ IntsV w v l) := ⟨hg, hl⟩
  obtain ⟨a, cap, rfl, hm, hr⟩ := hl
  unfold maxLen at hm
  have R : Aside (∀ i, i < l.length → ∃ b off, a = some ⟨b, off, none⟩ ∧ w.cell? ⟨b, off + i, none⟩ = some (.int .i64 (l.getD i 0))) := hr
  clear hr hg
  by_cases h100 : 100 < l.length
  · go_enter Tryd.func6, Tryd.ntmps6
    go_wp2_with fail
    refine (awake_any _ L.out.1).mono ?_
    rintro ev w1 ⟨rfl, hs⟩
    have D : Aside (Below _ _ _) := hs
    clear hs
    go_wp2
    go_ret
    exact ⟨rfl, D.out⟩
  · obtain ⟨hn0, hn1⟩ := hn
    go_enter Tryd.func6, Tryd.ntmps6
    go_wp2_with fail
    obtain ⟨q, hq⟩ : ∃ q : Nat, n % ((l.length : Int) + 1) = (q : Int) := ⟨(n % ((l.length : Int) + 1)).toNat, by have := Int.emod_nonneg n (b := (l.length : Int) + 1) (by omega); omega⟩
    rw [hq]
    clear hq hn0 hn1
    go_loopg [5, 28] l.length (fun m v i wr => ∃ k : Nat, k + m = l.length ∧ i = .int .i64 k ∧ OwnE w.heap.size wr v (sp l q k) ∧ Below w.heap.size w wr)
    case atStart => exact ⟨0, by omega, rfl, OwnE.nil _ _, Below.refl _ _⟩
    case round =>
      obtain ⟨k, hk, rfl, hO, hB⟩ := hrel
      by_cases hlt : k < l.length
      · obtain ⟨b, off, rfl, hc⟩ := R.out k hlt
        have hc' : wr.cell? ⟨b, off + k, none⟩ = some (.int .i64 (l.getD k 0)) := by rw [hB.cell (p := ⟨b, off + k, none⟩) (lt_of_cell hc)]; exact hc
        have hsl := sp_le l q k
        have C : Aside (OwnE w.heap.size wr _ (sp l q k) ∧ Below w.heap.size w wr ∧ k + gk = l.length ∧ (sp l q k).length ≤ k + 1) := ⟨hO, hB, hk, hsl⟩
        clear hc hO hB hk hsl
        generalize hx : l.getD k 0 = x at *
        have HX := Lib.hid hx
        clear hx
        by_cases hkq : k = q
        · subst hkq
          go_wp2_with (at_builtin; go_must (refine app_own rfl (.tmp 36) (.tmp 37) rfl w.heap.size _ .nilIface (sp l k k) none rfl C.out.1 rfl rfl (by have := C.out.2.2.2; omega) C.out.2.1.size ?_))
          intro v1 w1 hO1 hB1
          have D : Aside (OwnE w.heap.size w1 v1 _ ∧ Below w.heap.size w w1) := ⟨hO1, C.out.2.1.trans hB1⟩
          clear hO1 hB1
          go_wp2_with fail
          refine (At_some _ _ _ _ _).mono ?_
          rintro e w2 ⟨rfl, rfl⟩
          have hE : Elm (w1.alloc (.cells #[.string ⟨#[120]⟩, .int .i64 k, .iface 24 (.int .i64 x)] 53)) (.iface 50 (.pointer (some ⟨w1.heap.size, 0, none⟩))) (some ((k : Int), x)) := ⟨w1.heap.size, rfl, heap_alloc_new _ _⟩
          have hO2 := D.out.1.below ((Below.refl _ _).alloc (Nat.le_refl _) (.cells #[.string ⟨#[120]⟩, .int .i64 k, .iface 24 (.int .i64 x)] 53))
          have hB2 : Below w.heap.size w (w1.alloc (.cells #[.string ⟨#[120]⟩, .int .i64 k, .iface 24 (.int .i64 x)] 53)) := D.out.2.alloc D.out.2.size _
          have E : Aside (Elm _ _ (some ((k : Int), x)) ∧ OwnE w.heap.size (w1.alloc _) _ _ ∧ Below w.heap.size w (w1.alloc _)) := ⟨hE, hO2, hB2⟩
          clear hE hO2 hB2
          generalize hw2 : w1.alloc (.cells #[.string ⟨#[120]⟩, .int .i64 k, .iface 24 (.int .i64 x)] 53) = w2 at *
          clear hw2
          go_wp2_with (at_builtin; go_must (refine app_own rfl (.tmp 39) (.tmp 44) rfl w.heap.size _ _ (sp l k k ++ [none]) (some ((k : Int), x)) rfl E.out.2.1 rfl E.out.1 (by have := C.out.2.2.2; simp; omega) E.out.2.2.size ?_))
          intro v3 w3 hO3 hB3
          have F : Aside (OwnE w.heap.size w3 v3 _ ∧ Below w.heap.size w w3) := ⟨hO3, E.out.2.2.trans hB3⟩
          clear hO3 hB3
          go_wp2
          go_roundg (l.length - (k + 1))
          case measure => have := C.out.2.2.1; omega
          case rel => exact ⟨k + 1, by omega, by go_num, by have h := F.out.1; rw [← HX.out] at h; simpa [sp] using h, F.out.2⟩
        · have hkq' : ((k : Int) == (q : Int)) = false := by simp; omega
          go_wp2_with fail
          refine (At_some _ _ _ _ _).mono ?_
          rintro e w2 ⟨rfl, rfl⟩
          have hE : Elm (wr.alloc (.cells #[.string ⟨#[120]⟩, .int .i64 k, .iface 24 (.int .i64 x)] 53)) (.iface 50 (.pointer (some ⟨wr.heap.size, 0, none⟩))) (some ((k : Int), x)) := ⟨wr.heap.size, rfl, heap_alloc_new _ _⟩
          have hO2 := C.out.1.below ((Below.refl _ _).alloc (Nat.le_refl _) (.cells #[.string ⟨#[120]⟩, .int .i64 k, .iface 24 (.int .i64 x)] 53))
          have hB2 : Below w.heap.size w (wr.alloc (.cells #[.string ⟨#[120]⟩, .int .i64 k, .iface 24 (.int .i64 x)] 53)) := C.out.2.1.alloc C.out.2.1.size _
          have E : Aside (Elm _ _ (some ((k : Int), x)) ∧ OwnE w.heap.size (wr.alloc _) _ _ ∧ Below w.heap.size w (wr.alloc _)) := ⟨hE, hO2, hB2⟩
          clear hE hO2 hB2
          generalize hw2 : wr.alloc (.cells #[.string ⟨#[120]⟩, .int .i64 k, .iface 24 (.int .i64 x)] 53) = w2 at *
          clear hw2
          go_wp2_with (at_builtin; go_must (refine app_own rfl (.tmp 39) (.tmp 44) rfl w.heap.size _ _ (sp l q k) (some ((k : Int), x)) rfl E.out.2.1 rfl E.out.1 (by have := C.out.2.2.2; omega) E.out.2.2.size ?_))
          intro v3 w3 hO3 hB3
          have F : Aside (OwnE w.heap.size w3 v3 _ ∧ Below w.heap.size w w3) := ⟨hO3, E.out.2.2.trans hB3⟩
          clear hO3 hB3
          go_wp2
          go_roundg (l.length - (k + 1))
          case measure => have := C.out.2.2.1; omega
          case rel => exact ⟨k + 1, by omega, by go_num, by have h := F.out.1; rw [← HX.out] at h; simpa [sp, hkq] using h, F.out.2⟩
      · obtain rfl : k = l.length := by omega
        have C : Aside (OwnE w.heap.size wr _ (sp l q l.length) ∧ Below w.heap.size w wr) := ⟨hO, hB⟩
        clear hO hB
        have hlen := sp_le l q l.length
        go_wp2_with fail
        refine (Worst_any _ (sp l q l.length) _ (L.out.1.below C.out.2) (C.out.1.errs (by omega))).mono ?_
        rintro ev w2 ⟨v, rfl, hv, hs⟩
        rw [sp_worst] at hv
        have D : Aside (Elm w2 v _ ∧ Below w.heap.size w w2) := ⟨hv, C.out.2.trans (hs.mono C.out.2.size)⟩
        clear hv hs
        go_wp2_with fail
        refine (refWorst_any _ l _ (L.out.2.below D.out.2)).mono ?_
        rintro ev w3 ⟨rfl, hs⟩
        have E : Aside (Elm w3 v _ ∧ Below w.heap.size w w3) := ⟨D.out.1.below hs, D.out.2.trans (hs.mono D.out.2.size)⟩
        clear hs D C hlen
        by_cases h0 : l.length = 0
        · have e1 : rwi l l.length = -1 := by unfold rwi; rw [if_pos h0]
          have hv : v = .nilIface := by have h := E.out.1; rw [if_pos h0] at h; exact h
          subst hv
          rw [e1]
          clear e1
          go_wp2_with fail
          refine (Worst_any _ [] _ (L.out.1.below E.out.2) ⟨none, 0, rfl, by simp, fun i hi => absurd hi (by simp)⟩).mono ?_
          rintro ev w4 ⟨v4, rfl, hv4, hs⟩
          obtain rfl : v4 = .nilIface := hv4
          have F : Aside (Below w.heap.size w w4) := E.out.2.trans (hs.mono E.out.2.size)
          clear hs E
          go_wp2_with fail
          refine (Worst_any _ [none, none] _ ((L.out.1.below F.out).below ((Below.refl _ _).alloc (Nat.le_refl _) _)) ⟨some ⟨w4.heap.size, 0, none⟩, 2, rfl, by simp, ?_⟩).mono ?_
          · intro i hi
            have hi' : i = 0 ∨ i = 1 := by simp at hi; omega
            rcases hi' with rfl | rfl
            · exact ⟨_, _, .nilIface, rfl, by rw [World.cell?_alloc_at _ _ _ _ rfl]; rfl, rfl⟩
            · exact ⟨_, _, .nilIface, rfl, by rw [World.cell?_alloc_at _ _ _ _ rfl]; rfl, rfl⟩
          rintro ev w5 ⟨v5, rfl, hv5, hs⟩
          obtain rfl : v5 = .nilIface := hv5
          have G : Aside (Below w.heap.size w w5) := F.out.trans (((Below.refl _ _).alloc F.out.size _).trans (hs.mono (by simp; have := F.out.size; omega)))
          clear hs F
          go_wp2_with fail
          refine (awake_any _ (L.out.1.below G.out)).mono ?_
          rintro ev w6 ⟨rfl, hs⟩
          have H : Aside (Below w.heap.size w w6) := G.out.trans (hs.mono G.out.size)
          clear hs G
          go_wp2
          go_ret
          exact ⟨rfl, H.out⟩
        · have hj := rwn_lt l l.length (by omega)
          have e1 : rwi l l.length = (rwn l l.length : Int) := by unfold rwi; rw [if_neg h0]
          have hmax : ∀ i, i < l.length → wt (l.getD i 0) ≤ wt (l.getD (rwn l l.length) 0) := fun i hi => rwn_max l l.length i hi
          have hv := E.out.1
          rw [if_neg h0] at hv
          rw [e1]
          clear e1
          obtain ⟨b, off, rfl, hd⟩ := R.out (rwn l l.length) hj
          have hd' : w3.cell? ⟨b, off + rwn l l.length, none⟩ = some (.int .i64 (l.getD (rwn l l.length) 0)) := by rw [E.out.2.cell (p := ⟨b, off + rwn l l.length, none⟩) (lt_of_cell hd)]; exact hd
          generalize l.getD (rwn l l.length) 0 = y at *
          generalize rwn l l.length = j at *
          have hC := hv.chn
          obtain ⟨u, v', rfl⟩ := hC.held
          have F : Aside (Chn w3 _ _ y ∧ Below w.heap.size w w3 ∧ ∀ i, i < l.length → wt (l.getD i 0) ≤ wt y) := ⟨hC, E.out.2, hmax⟩
          have hP : Calls Tryd.prog 10 #[.iface u v'] w3 fun ev w' => ev = .returned (.tuple #[.string ⟨#[120]⟩, .int .i64 j, .bool true]) ∧ Below w3.heap.size w3 w' := Place_chain _ _ _ _ F.out.1 (L.out.1.below F.out.2.1)
          have hlw := lt_of_cell hd
          clear hv hC hmax E h0
          have P : Aside (Calls _ _ _ _ _) := hP
          clear hP hd
          go_wp2_with fail
          refine P.out.mono ?_
          rintro ev w4 ⟨rfl, hs⟩
          have G : Aside (Chn w4 (.iface u v') _ y ∧ Below w.heap.size w w4) := ⟨F.out.1.below hs, F.out.2.1.trans (hs.mono F.out.2.1.size)⟩
          have hd4 : w4.cell? ⟨b, off + j, none⟩ = some (.int .i64 y) := by rw [hs.cell (p := ⟨b, off + j, none⟩) (lt_of_cell hd')]; exact hd'
          have hl4 := lt_of_cell hd4
          clear hs P hd'
          go_wp2_with fail
          go_region_held3 (fun w' => w'.cell? ⟨b, off + j, none⟩ = some (.int .i64 y)) (first | assumption | go_keep)
            (first
              | (go_at_call 13; (with_reducible refine (Code_chain [(⟨#[120]⟩, (j : Int))] y _ _ ?_ ?_).mono ?_); exact G.out.1.below (Below.refl _ _).drew; exact (L.out.1.below G.out.2).below (Below.refl _ _).drew; rintro e w5 ⟨rfl, hs⟩; have H : Aside (Chn w5 (.iface u v') _ y ∧ Below w.heap.size w w5) := ⟨(G.out.1.below (Below.refl _ _).drew).below hs, (G.out.2.drew).trans (hs.mono G.out.2.size)⟩; have g5 : w5.cell? ⟨b, off + j, none⟩ = some (.int .i64 y) := (hs.cell (p := ⟨b, off + j, none⟩) hl4).trans hd4; clear hs))
          have A5 : Aside (Chn w5 (.iface u v') [(⟨#[120]⟩, (j : Int))] y ∧ Below w.heap.size w w5 ∧ ∀ i, i < l.length → wt (l.getD i 0) ≤ wt y) := ⟨H.out.1, H.out.2, F.out.2.2⟩
          clear g5 hd4 G H F hlw hl4 hj hk hlt
          go_wp2
          go_loopg [95] l.length (fun m i wr => ∃ k : Nat, k + m = l.length ∧ i = .int .i64 k ∧ Chn wr (.iface u v') [(⟨#[120]⟩, (j : Int))] y ∧ Below w.heap.size w wr)
          case atStart => exact ⟨0, by omega, rfl, A5.out.1, A5.out.2.1⟩
          case round =>
            obtain ⟨k, hk, rfl, hC, hB⟩ := hrel
            by_cases hlt : k < l.length
            · obtain ⟨b', off', hb', hc⟩ := R.out k hlt
              obtain ⟨rfl, rfl⟩ : b' = b ∧ off' = off := by simpa [eq_comm] using hb'
              have hc' : wr.cell? ⟨b', off' + k, none⟩ = some (.int .i64 (l.getD k 0)) := by rw [hB.cell (p := ⟨b', off' + k, none⟩) (lt_of_cell hc)]; exact hc
              have hle := A5.out.2.2 k hlt
              have M : Aside (Chn wr (.iface u v') [(⟨#[120]⟩, (j : Int))] y ∧ Below w.heap.size w wr ∧ k + gk = l.length) := ⟨hC, hB, hk⟩
              clear hc hb' hC hB hk
              generalize l.getD k 0 = x at *
              have hle' : ¬ wt y < wt x := by omega
              clear hle
              go_wp2_with fail
              refine (weight_any _ _).mono ?_
              rintro ev w6 ⟨rfl, rfl⟩
              go_wp2_with fail
              refine (Code_chain [(⟨#[120]⟩, (j : Int))] y _ _ M.out.1 (L.out.1.below M.out.2.1)).mono ?_
              rintro ev w7 ⟨rfl, hs⟩
              have N : Aside (Chn w7 (.iface u v') [(⟨#[120]⟩, (j : Int))] y ∧ Below w.heap.size w w7) := ⟨M.out.1.below hs, M.out.2.1.trans (hs.mono M.out.2.1.size)⟩
              clear hs
              go_wp2_with fail
              refine (weight_any _ _).mono ?_
              rintro ev w8 ⟨rfl, rfl⟩
              go_wp2
              go_roundg (l.length - (k + 1))
              case measure => have := M.out.2.2; omega
              case rel => exact ⟨k + 1, by omega, by go_num, N.out.1, N.out.2⟩
            · have M : Aside (Below w.heap.size w wr) := hB
              clear hC hB
              go_wp2_with fail
              refine (awake_any _ (L.out.1.below M.out)).mono ?_
              rintro ev w6 ⟨rfl, hs⟩
              have N : Aside (Below w.heap.size w w6) := M.out.trans (hs.mono M.out.size)
              clear hs M
              go_wp2
              go_ret
              exact ⟨rfl, N.out⟩
end Go.Proofs.YtkhhdaekdledoaaDoor
