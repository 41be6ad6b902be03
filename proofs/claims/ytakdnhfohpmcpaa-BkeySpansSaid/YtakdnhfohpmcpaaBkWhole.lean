/- The walk of the law BkeyWhole, out of bkey's contracts. -/
import Derived.Test.YtakdnhfohpmcpaaBkMeet
import Derived.Test.YtakdnhfohpmcpaaBkLine
namespace Go.Proofs.Ytakdnhfohpmcpaa
open Go.RowKit

/-- block n holds a span -/
structure SB (n : Nat) (l h : ByteArray) (u : Bool) (w : World) : Prop where
  c0 : w.cell? ⟨n, 0, none⟩ = some (.string l)
  c1 : w.cell? ⟨n, 1, none⟩ = some (.string h)
  c2 : w.cell? ⟨n, 2, none⟩ = some (.bool u)
theorem SB.step {n : Nat} {l h : ByteArray} {u : Bool} {w w' : World} (s : SB n l h u w) (hs : Below w.heap.size w w') : SB n l h u w' :=
  ⟨(hs.cell (p := ⟨n, 0, none⟩) (lt_of_cell s.c0)).trans s.c0, (hs.cell (p := ⟨n, 1, none⟩) (lt_of_cell s.c1)).trans s.c1, (hs.cell (p := ⟨n, 2, none⟩) (lt_of_cell s.c2)).trans s.c2⟩
theorem SB.new (l h : ByteArray) (u : Bool) (w : World) (t : TypeId) : SB w.heap.size l h u (w.alloc (.cells #[.string l, .string h, .bool u] t)) :=
  ⟨by rw [World.cell?_alloc_at _ _ _ _ rfl]; rfl, by rw [World.cell?_alloc_at _ _ _ _ rfl]; rfl, by rw [World.cell?_alloc_at _ _ _ _ rfl]; rfl⟩
theorem strsV_at (w : World) (n : Nat) (hn : w.heap.size = n) (ss : List ByteArray) (t : TypeId) (h : ss.length ≤ maxLen) : StrsV (w.alloc (.cells (ss.map Value.string).toArray t)) (.slice (some ⟨n, 0, none⟩) ss.length ss.length) ss := hn ▸ strsV_new w ss t h
theorem alloc_below (w : World) (o : Obj) : Below w.heap.size w (w.alloc o) := (Below.refl _ _).alloc (Nat.le_refl _) _

theorem maxB_nil (x : ByteArray) : maxB x ⟨#[]⟩ = x := by
  unfold maxB
  rw [show (⟨#[]⟩ : ByteArray).data.toList = [] from rfl, bef_nil]; rfl
theorem inn_all (key : ByteArray) : inn (⟨#[]⟩ : ByteArray).data.toList (⟨#[]⟩ : ByteArray).data.toList true key.data.toList = true := by
  unfold inn
  rw [show (⟨#[]⟩ : ByteArray).data.toList = [] from rfl, bef_nil]; rfl

set_option maxRecDepth 100000 in
set_option maxHeartbeats 2000000 in
theorem whole_unb (C : BkC) (M : BkM) (l h key : ByteArray) (w : World) (hl : l.size ≤ maxLen) (hh : h.size ≤ maxLen) (hk : key.size ≤ maxLen) :
    Calls Try.prog 10 #[.agg #[.string l, .string h, .bool true], .string key] w fun ev w' => ev = .returned (.bool true) ∧ Below w.heap.size w w' := by
  have hnot : ∀ (x : Bool) (w : World), (Op.unary .not (.bool x)).run Try.prog w = .ok (.bool (!x)) w := fun _ _ => rfl
  have L : Aside (BkC ∧ BkM ∧ l.size ≤ maxLen ∧ h.size ≤ maxLen ∧ key.size ≤ maxLen) := ⟨C, M, hl, hh, hk⟩
  clear C M hl hh hk
  have k0 := Lib.hid ((SB.new l h true w 39).step (alloc_below _ (.cells #[.string l, .string h, .string key] 9)))
  have b0 := Lib.hid ((alloc_below w (.cells #[.string l, .string h, .bool true] 39)).trans ((alloc_below (w.alloc (.cells #[.string l, .string h, .bool true] 39)) (.cells #[.string l, .string h, .string key] 9)).mono (alloc_below w (.cells #[.string l, .string h, .bool true] 39)).size))
  go_enter Try.func10, Try.ntmps10
  go_wp2_with fail
  refine (few_of _ [l, h, key] _ (strsV_at (w.alloc (.cells #[.string l, .string h, .bool true] 39)) (w.heap.size + 1) (by simp) [l, h, key] 9 (by simp [maxLen]))).mono ?_
  rintro ev w1 ⟨rfl, rfl⟩
  cases hf : fewB [l, h, key] with
  | false =>
    clear hf
    go_wp2_with fail
    refine (awake_of L.out.1 _).mono ?_
    rintro ev w1 ⟨rfl, hs⟩
    have B : Aside (Below w.heap.size w w1) := b0.out.trans (hs.mono b0.out.size)
    clear hs
    go_wp2
    go_ret
    exact ⟨rfl, B.out⟩
  | true =>
    clear hf
    go_wp2_with fail
    have k1 := Lib.hid (k0.out.step (alloc_below _ (.cells #[.string ⟨#[]⟩, .string ⟨#[]⟩, .bool true] 39)))
    have b1 := Lib.hid (b0.out.trans ((alloc_below ((w.alloc (.cells #[.string l, .string h, .bool true] 39)).alloc (.cells #[.string l, .string h, .string key] 9)) (.cells #[.string ⟨#[]⟩, .string ⟨#[]⟩, .bool true] 39)).mono b0.out.size))
    generalize ((w.alloc (.cells #[.string l, .string h, .bool true] 39)).alloc (.cells #[.string l, .string h, .string key] 9)).alloc (.cells #[.string ⟨#[]⟩, .string ⟨#[]⟩, .bool true] 39) = w1 at *
    refine (L.out.2.1.whole l h ⟨#[]⟩ ⟨#[]⟩ _).mono ?_
    rintro ev w2 ⟨rfl, hs⟩
    rw [maxB_nil]
    unfold spn
    have k2 := Lib.hid ((k1.out.step hs).step (alloc_below w2 (.cells #[.string l, .string ⟨#[]⟩, .bool true] 39)))
    have m2 := Lib.hid (SB.new l ⟨#[]⟩ true w2 39)
    have b2 := Lib.hid ((b1.out.trans (hs.mono b1.out.size)).trans ((alloc_below w2 (.cells #[.string l, .string ⟨#[]⟩, .bool true] 39)).mono (b1.out.trans (hs.mono b1.out.size)).size))
    clear hs k0 b0 k1 b1
    go_wp2_with fail
    refine (L.out.1.inside ⟨#[]⟩ ⟨#[]⟩ key true _ (by decide) (by decide) L.out.2.2.2.2).mono ?_
    rintro ev w3 ⟨rfl, hs⟩
    rw [inn_all]
    have k3 := k2.out.step hs
    have m3 := m2.out.step hs
    have b3 := Lib.hid (b2.out.trans (hs.mono b2.out.size))
    have k30 := k3.c0
    have k32 := k3.c2
    have m30 := m3.c0
    have m31 := m3.c1
    have m32 := m3.c2
    clear k3 m3 hs k2 m2 b2
    generalize w2.heap.size = n at *
    go_wp2_with fail
    refine (awake_of L.out.1 _).mono ?_
    rintro ev w4 ⟨rfl, hs⟩
    have b4 : Aside (Below w.heap.size w w4) := b3.out.trans (hs.mono b3.out.size)
    clear hs
    go_wp2
    go_ret
    exact ⟨rfl, b4.out⟩

set_option maxRecDepth 100000 in
set_option maxHeartbeats 4000000 in
theorem whole_bnd (C : BkC) (M : BkM) (l h key : ByteArray) (x : Int) (w : World) (hl : l.size ≤ maxLen) (hh : h.size ≤ maxLen) (hk : key.size ≤ maxLen) (hx : cmp l.data.toList h.data.toList = x) (hst : bef l.data.toList h.data.toList = true ∧ x = -1 ∨ bef l.data.toList h.data.toList = false ∧ (x = 0 ∨ x = 1)) :
    Calls Try.prog 10 #[.agg #[.string l, .string h, .bool false], .string key] w fun ev w' => ev = .returned (.bool true) ∧ Below w.heap.size w w' := by
  have hnot : ∀ (x : Bool) (w : World), (Op.unary .not (.bool x)).run Try.prog w = .ok (.bool (!x)) w := fun _ _ => rfl
  have L : Aside (BkC ∧ BkM ∧ l.size ≤ maxLen ∧ h.size ≤ maxLen ∧ key.size ≤ maxLen) := ⟨C, M, hl, hh, hk⟩
  have X := Lib.hid hx
  have S := Lib.hid hst
  clear C M hl hh hk hx hst
  have k0 := Lib.hid ((SB.new l h false w 39).step (alloc_below _ (.cells #[.string l, .string h, .string key] 9)))
  have b0 := Lib.hid ((alloc_below w (.cells #[.string l, .string h, .bool false] 39)).trans ((alloc_below (w.alloc (.cells #[.string l, .string h, .bool false] 39)) (.cells #[.string l, .string h, .string key] 9)).mono (alloc_below w (.cells #[.string l, .string h, .bool false] 39)).size))
  go_enter Try.func10, Try.ntmps10
  go_wp2_with fail
  refine (few_of _ [l, h, key] _ (strsV_at (w.alloc (.cells #[.string l, .string h, .bool false] 39)) (w.heap.size + 1) (by simp) [l, h, key] 9 (by simp [maxLen]))).mono ?_
  rintro ev w1 ⟨rfl, rfl⟩
  cases hf : fewB [l, h, key] with
  | false =>
    clear hf
    go_wp2_with fail
    refine (awake_of L.out.1 _).mono ?_
    rintro ev w1 ⟨rfl, hs⟩
    have B : Aside (Below w.heap.size w w1) := b0.out.trans (hs.mono b0.out.size)
    clear hs
    go_wp2
    go_ret
    exact ⟨rfl, B.out⟩
  | true =>
    clear hf
    go_wp2_with fail
    have k1 := Lib.hid (k0.out.step (alloc_below _ (.cells #[.string ⟨#[]⟩, .string ⟨#[]⟩, .bool true] 39)))
    have b1 := Lib.hid (b0.out.trans ((alloc_below ((w.alloc (.cells #[.string l, .string h, .bool false] 39)).alloc (.cells #[.string l, .string h, .string key] 9)) (.cells #[.string ⟨#[]⟩, .string ⟨#[]⟩, .bool true] 39)).mono b0.out.size))
    generalize ((w.alloc (.cells #[.string l, .string h, .bool false] 39)).alloc (.cells #[.string l, .string h, .string key] 9)).alloc (.cells #[.string ⟨#[]⟩, .string ⟨#[]⟩, .bool true] 39) = w1 at *
    rcases S.out with ⟨q, rfl⟩ | ⟨q, hx⟩
    · have hq : bef (maxB l ⟨#[]⟩).data.toList (endB h ⟨#[]⟩ false true).data.toList = true := by rw [maxB_nil]; exact q
      refine (L.out.2.1.some l h ⟨#[]⟩ ⟨#[]⟩ false true _ rfl hq).mono ?_
      rintro ev w2 ⟨rfl, hs⟩
      clear hq q
      rw [maxB_nil]
      have he : endB h ⟨#[]⟩ false true = h := rfl
      rw [he]
      clear he
      unfold spn
      have k2 := Lib.hid ((k1.out.step hs).step (alloc_below w2 (.cells #[.string l, .string h, .bool false] 39)))
      have m2 := Lib.hid (SB.new l h false w2 39)
      have b2 := Lib.hid ((b1.out.trans (hs.mono b1.out.size)).trans ((alloc_below w2 (.cells #[.string l, .string h, .bool false] 39)).mono (b1.out.trans (hs.mono b1.out.size)).size))
      clear hs k0 b0 k1 b1 S
      go_wp2_with fail
      refine (L.out.1.inside ⟨#[]⟩ ⟨#[]⟩ key true _ (by decide) (by decide) L.out.2.2.2.2).mono ?_
      rintro ev w3 ⟨rfl, hs⟩
      rw [inn_all]
      have k3 := Lib.hid (k2.out.step hs)
      have m3 := Lib.hid (m2.out.step hs)
      have b3 := Lib.hid (b2.out.trans (hs.mono b2.out.size))
      have k30 := k3.out.c0
      have k31 := k3.out.c1
      have k32 := k3.out.c2
      clear hs k2 m2 b2
      generalize w2.heap.size = n at *
      go_wp2_with fail
      refine (L.out.1.compare l h _ L.out.2.2.1 L.out.2.2.2.1).mono ?_
      rintro ev w4 ⟨rfl, hs⟩
      rw [X.out]
      have k4 := k3.out.step hs
      have m4 := m3.out.step hs
      have b4 := Lib.hid (b3.out.trans (hs.mono b3.out.size))
      clear k30 k31 k32
      have k30 := k4.c0
      have k31 := k4.c1
      have k32 := k4.c2
      have m30 := m4.c0
      have m31 := m4.c1
      have m32 := m4.c2
      clear k3 m3 k4 m4 hs b3 X
      go_wp2_with fail
      refine (awake_of L.out.1 _).mono ?_
      rintro ev w5 ⟨rfl, hs⟩
      have b5 : Aside (Below w.heap.size w w5) := b4.out.trans (hs.mono b4.out.size)
      clear hs
      go_wp2
      go_ret
      exact ⟨rfl, b5.out⟩
    · have hq : bef (maxB l ⟨#[]⟩).data.toList (endB h ⟨#[]⟩ false true).data.toList = false := by rw [maxB_nil]; exact q
      refine (L.out.2.1.none l h ⟨#[]⟩ ⟨#[]⟩ false true _ rfl hq).mono ?_
      rintro ev w2 ⟨rfl, hs⟩
      clear hq q
      unfold spn
      have k2 := Lib.hid ((k1.out.step hs).step (alloc_below w2 (.cells #[.string ⟨#[]⟩, .string ⟨#[]⟩, .bool false] 39)))
      have m2 := Lib.hid (SB.new ⟨#[]⟩ ⟨#[]⟩ false w2 39)
      have b2 := Lib.hid ((b1.out.trans (hs.mono b1.out.size)).trans ((alloc_below w2 (.cells #[.string ⟨#[]⟩, .string ⟨#[]⟩, .bool false] 39)).mono (b1.out.trans (hs.mono b1.out.size)).size))
      clear hs k0 b0 k1 b1 S
      go_wp2_with fail
      refine (L.out.1.inside ⟨#[]⟩ ⟨#[]⟩ key true _ (by decide) (by decide) L.out.2.2.2.2).mono ?_
      rintro ev w3 ⟨rfl, hs⟩
      rw [inn_all]
      have k3 := Lib.hid (k2.out.step hs)
      have m3 := Lib.hid (m2.out.step hs)
      have b3 := Lib.hid (b2.out.trans (hs.mono b2.out.size))
      have k30 := k3.out.c0
      have k31 := k3.out.c1
      have k32 := k3.out.c2
      clear hs k2 m2 b2
      generalize w2.heap.size = n at *
      go_wp2_with fail
      refine (L.out.1.compare l h _ L.out.2.2.1 L.out.2.2.2.1).mono ?_
      rintro ev w4 ⟨rfl, hs⟩
      rw [X.out]
      have k4 := k3.out.step hs
      have m4 := m3.out.step hs
      have b4 := Lib.hid (b3.out.trans (hs.mono b3.out.size))
      clear k30 k31 k32
      have k30 := k4.c0
      have k31 := k4.c1
      have k32 := k4.c2
      have m30 := m4.c0
      have m31 := m4.c1
      have m32 := m4.c2
      clear k3 m3 k4 m4 hs b3 X
      rcases hx with rfl | rfl
      all_goals
        go_wp2_with fail
        refine (awake_of L.out.1 _).mono ?_
        rintro ev w5 ⟨rfl, hs⟩
        have b5 : Aside (Below w.heap.size w w5) := b4.out.trans (hs.mono b4.out.size)
        clear hs
        go_wp2
        go_ret
        exact ⟨rfl, b5.out⟩
theorem lawWhole (C : BkC) (M : BkM) (l h key : ByteArray) (u : Bool) (w : World) (hl : l.size ≤ maxLen) (hh : h.size ≤ maxLen) (hk : key.size ≤ maxLen) :
    Calls Try.prog 10 #[.agg #[.string l, .string h, .bool u], .string key] w fun ev w' => ev = .returned (.bool true) ∧ Below w.heap.size w w' := by
  cases u with
  | true => exact whole_unb C M l h key w hl hh hk
  | false =>
    refine whole_bnd C M l h key _ w hl hh hk rfl ?_
    cases q : bef l.data.toList h.data.toList with
    | true => exact .inl ⟨rfl, by unfold cmp; rw [if_pos q]⟩
    | false => exact .inr ⟨rfl, by unfold cmp; rw [q]; by_cases k : bef h.data.toList l.data.toList = true <;> simp [k]⟩
end Go.Proofs.Ytakdnhfohpmcpaa
