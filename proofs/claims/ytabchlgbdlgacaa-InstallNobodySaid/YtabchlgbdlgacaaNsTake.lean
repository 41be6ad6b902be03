/- Package install's take, by contract. -/
import Derived.Test.YtabchlgbdlgacaaNsUndo
import Derived.Test.YtabchlgbdlgacaaNsMemB
namespace Go.Proofs.Ytabchlgbdlgacaa
open Go.RowKit

theorem ErrF.erv {w : World} {v : Value} {e : Int} (h : ErrF w v e) : ErV v := by
  rcases h with ⟨-, h⟩ | ⟨-, h | ⟨b, pl, x, h, -⟩⟩
  · exact .inl h
  · exact .inr ⟨_, _, h⟩
  · exact .inr ⟨_, _, h⟩
theorem ErrF.nil {w : World} {v : Value} {e : Int} (h : ErrF w v e) (h0 : e = 0) : v = .nilIface := by
  rcases h with ⟨-, h⟩ | ⟨h, -⟩
  · exact h
  · exact absurd h0 h
theorem ErrF.ifc {w : World} {v : Value} {e : Int} (h : ErrF w v e) (h0 : e ≠ 0) : ∃ t x, v = .iface t x := by
  rcases h with ⟨h, -⟩ | ⟨-, h | ⟨b, pl, x, h, -⟩⟩
  · exact absurd h h0
  · exact ⟨_, _, h⟩
  · exact ⟨_, _, h⟩
theorem ErrF.kept {w w' : World} {v : Value} {e : Int} (h : ErrF w v e) {S : Nat → Prop} (hk : Kept S w w') (hn : ∀ b, S b → ∀ cs, w.heap[b]? ≠ some (.cells cs 129 (0, 0))) : ErrF w' v e := by
  rcases h with h | ⟨h0, h | ⟨b', pl, x, h1, h2⟩⟩
  · exact .inl h
  · exact .inr ⟨h0, .inl h⟩
  · exact .inr ⟨h0, .inr ⟨b', pl, x, h1, (hk.block b' (Array.getElem?_eq_some_iff.1 h2).1 (fun hs => hn b' hs _ h2)).trans h2⟩⟩
/-- what a step may turn: the memory's blocks and the installer's -/
def US (m : MB) (S : Nat → Prop) (b : Nat) : Nat → Prop := fun j => MS m S j ∨ j = b
theorem US.ms {m : MB} {S : Nat → Prop} {b : Nat} {w w' : World} (hk : Kept (MS m S) w w') : Kept (US m S b) w w' := hk.wide fun _ _ h => .inl h
theorem US.one {m : MB} {S : Nat → Prop} {b : Nat} {w w' : World} (hk : Kept (fun j => j = b) w w') : Kept (US m S b) w w' := hk.wide fun _ _ h => .inr h
theorem MemAt.off1 {w w' : World} {m : MB} {S : Nat → Prop} {l : LimN} {k : Int} {ps : List Pt} {L : List Pg} {c : Ck} (h : MemAt w m S l k ps L c) {b : Nat} (hk : Kept (fun j => j = b) w w') (hb : ¬ MS m S b) : MemAt w' m S l k ps L c := h.keep hk fun j hj e => hb (e ▸ hj)
theorem InsAt.fault {w : World} {b : Nat} {i : Ins} (h : InsAt w b i) : ∀ j, j = b → ∀ cs, w.heap[j]? ≠ some (.cells cs 129 (0, 0)) := fun j e cs hc => by
  subst e
  exact absurd (blk_ne hc h.blk (by decide)) (fun h => h rfl)
def takeI (i : Ins) (x : Int) : Ins := { i with pg := upd i.pg i.tk x, tk := i.tk + 1 }
set_option maxRecDepth 100000 in
set_option maxHeartbeats 4000000 in
theorem iTake_any (w : World) (b : Nat) (i : Ins) (m : MB) (S : Nat → Prop) (l : LimN) (k : Int) (ps : List Pt) (L : List Pg) (c : Ck) (hi : InsAt w b i) (h : MemAt w m S l k ps L c) (hb : ¬ MS m S b) (h4 : i.tk < 4) :
    Calls Try.prog 42 #[.pointer (some ⟨b, 0, none⟩), .pointer (some ⟨m.mb, 0, none⟩)] w fun ev w' => ev = .returned (.tuple #[]) ∧ MemAt w' m S l (inc k) ps (takeL L) c ∧ Kept (US m S b) w w' ∧
      ((takeE L = 0 ∧ InsAt w' b (takeI i (takeN L : Int))) ∨ (takeE L ≠ 0 ∧ ∃ v, ErrF w' v (takeE L) ∧ InsAt w' b (undoI i v))) := by
  have I0 := Lib.hid hi
  have M0 := Lib.hid h
  have HB := Lib.hid hb
  have H4 := Lib.hid h4
  clear hi h hb h4
  go_enter Try.func42, Try.ntmps42
  go_wp2_with fail
  refine (nTake_any _ m S l k ps L c M0.out).mono ?_
  rintro ev w1 ⟨v, rfl, he, hM, hk⟩
  have M1 := Lib.hid hM
  have K1 := Lib.hid (US.ms (b := b) hk)
  have I1 := Lib.hid (I0.out.keep hk HB.out)
  have E1 := Lib.hid he
  clear hM hk
  by_cases h0 : takeE L = 0
  · rw [he.nil h0]
    have HE := Lib.hid h0
    clear h0 he
    go_wp2_with fail
    have ID := Lib.hid (I1.out.step (Below.refl _ _).drew)
    have MD := Lib.hid (M1.out.low (Below.refl _ _).drew)
    have KD := Lib.hid K1.out.drew
    have FZ := Lib.hid (ID.out.free (6 + i.tk))
    have CP := Lib.hid (ID.out.cPg H4.out)
    have hx : (0 : Int) ≤ (i.tk : Int) ∧ (i.tk : Int) < 4 := by have := H4.out; omega
    refine AnyBut.region (fun w' => InsAt w' b i) 9 (by kernel_rfl) ?_
    generalize w1.drew = wd at *
    refine AnyBut.take (i := 0) (oi := ⟨some 16, _, _, _, _, _⟩) (v := ?va0) rfl (by kernel_rfl) (by kernel_rfl) (by kernel_rfl) (by kernel_rfl) (fun _ _ _ h => h) (Or.inl ⟨by rfl, ?hya0⟩) ID.out ?resta0
    case hya0 => (intro w hSw; have q0 := hSw.cTk; go_simp; try (with_reducible rfl))
    simp only [Act.put, List.setIfInBounds_toArray, List.set_cons_zero, List.set_cons_succ]
    refine AnyBut.take (i := 1) (oi := ⟨some 17, _, _, _, _, _⟩) (v := ?va1) rfl (by kernel_rfl) (by kernel_rfl) (by kernel_rfl) (by kernel_rfl) (fun _ _ _ h => h) (Or.inl ⟨by rfl, ?hya1⟩) ID.out ?resta1
    case hya1 => (intro w hSw; have q0 := hSw.cTk; go_simp; try (with_reducible rfl))
    simp only [Act.put, List.setIfInBounds_toArray, List.set_cons_zero, List.set_cons_succ]
    refine AnyBut.take (i := 2) (oi := ⟨some 18, _, _, _, _, _⟩) (v := ?va2) rfl (by kernel_rfl) (by kernel_rfl) (by kernel_rfl) (by kernel_rfl) (fun _ _ _ h => h) (Or.inl ⟨by rfl, ?hya2⟩) ID.out ?resta2
    case hya2 => (intro w hSw; have q0 := hSw.cTk; go_simp; try (with_reducible rfl))
    simp only [Act.put, List.setIfInBounds_toArray, List.set_cons_zero, List.set_cons_succ]
    refine AnyBut.take (i := 3) (oi := ⟨some 19, _, _, _, _, _⟩) (v := ?va3) rfl (by kernel_rfl) (by kernel_rfl) (by kernel_rfl) (by kernel_rfl) (fun _ _ _ h => h) (Or.inl ⟨by rfl, ?hya3⟩) ID.out ?resta3
    case hya3 => (intro w hSw; have q0 := hSw.cTk; go_simp; try (with_reducible rfl))
    simp only [Act.put, List.setIfInBounds_toArray, List.set_cons_zero, List.set_cons_succ]
    refine AnyBut.take (i := 4) (oi := ⟨some 20, _, _, _, _, _⟩) (v := ?va4) rfl (by kernel_rfl) (by kernel_rfl) (by kernel_rfl) (by kernel_rfl) (fun _ _ _ h => h) (Or.inl ⟨by rfl, ?hya4⟩) ID.out ?resta4
    case hya4 => (intro w hSw; have q0 := hSw.cTk; go_simp; try (with_reducible rfl))
    simp only [Act.put, List.setIfInBounds_toArray, List.set_cons_zero, List.set_cons_succ]
    refine AnyBut.take (i := 5) (oi := ⟨some 21, _, _, _, _, _⟩) (v := ?va5) rfl (by kernel_rfl) (by kernel_rfl) (by kernel_rfl) (by kernel_rfl) (fun _ _ _ h => h) (Or.inl ⟨by rfl, ?hya5⟩) ID.out ?resta5
    case hya5 => (intro w hSw; have q0 := hSw.cTk; go_simp; try (with_reducible rfl))
    simp only [Act.put, List.setIfInBounds_toArray, List.set_cons_zero, List.set_cons_succ]
    refine AnyBut.one (i := 6) (o := ⟨some 22, _, _, _, _, _⟩) (by kernel_rfl) rfl (fun K hK => ?_)
    rw [if_pos (by rfl)]
    have q0 := ID.out.cTk
    go_simp
    refine hK.out _ _ (fun _ => ID.out) ?_
    clear hK K
    try simp only [Act.put, List.setIfInBounds_toArray, List.set_cons_zero, List.set_cons_succ]
    refine AnyBut.one (i := 7) (o := ⟨some 23, _, _, _, _, _⟩) (by kernel_rfl) rfl (fun K hK => ?_)
    rw [if_pos (by rfl)]
    have q0 := ID.out.cTk
    go_simp
    refine hK.out _ _ (fun _ => ID.out) ?_
    clear hK K
    try simp only [Act.put, List.setIfInBounds_toArray, List.set_cons_zero, List.set_cons_succ]
    refine AnyBut.take (i := 8) (oi := ⟨some 24, _, _, _, _, _⟩) (v := ?va8) rfl (by kernel_rfl) (by kernel_rfl) (by kernel_rfl) (by kernel_rfl) (fun _ _ _ h => h) (Or.inl ⟨by rfl, ?hya8⟩) ID.out ?resta8
    case hya8 => (intro w hSw; have q0 := hSw.cTk; go_simp; try (with_reducible rfl))
    simp only [Act.put, List.setIfInBounds_toArray, List.set_cons_zero, List.set_cons_succ]
    refine AnyBut.one (i := 9) (o := ⟨none, _, _, _, _, _⟩) (by kernel_rfl) rfl (fun K hK => ?_)
    rw [if_pos (by rfl)]
    have c1 := CP.out
    have c2 := FZ.out
    go_simp
    refine hK.out _ _ (fun h => absurd rfl h) ?_
    clear hK K
    try simp only [Act.put]
    refine AnyBut.done (by kernel_rfl) ?_ _
    have I2 := Lib.hid (ID.out.sPg (takeN L : Int) H4.out)
    have Kb := Lib.hid ((Kept.refl (fun j => j = b) wd).setCell (6 + i.tk) (.int .i64 (takeN L : Int)))
    have M2 := Lib.hid (MD.out.off1 Kb.out HB.out)
    have K2 := Lib.hid (KD.out.trans (US.one (m := m) (S := S) Kb.out))
    generalize hW : wd.setCell ⟨b, 6 + i.tk, none⟩ (.int .i64 (takeN L : Int)) = W at *
    clear hW
    have y1 := I2.out.cTk
    have y2 := I2.out.free 95
    have hw : IntKind.i64.wrap ((i.tk : Int) + 1) = ((i.tk + 1 : Nat) : Int) := by rw [Go.IntWalk.i64_in _ (by have := H4.out; omega)]; omega
    have I3 := Lib.hid (I2.out.sTk (i.tk + 1))
    have Kc := Lib.hid ((Kept.refl (fun j => j = b) W).setCell 95 (.int .i64 ((i.tk + 1 : Nat) : Int)))
    have M3 := Lib.hid (M2.out.off1 Kc.out HB.out)
    have K3 := Lib.hid (K2.out.trans (US.one (m := m) (S := S) Kc.out))
    go_wp2
    go_end0
    exact ⟨rfl, M3.out, K3.out, .inl ⟨HE.out, I3.out⟩⟩
  · obtain ⟨t, x, rfl⟩ := he.ifc h0
    have HE := Lib.hid h0
    clear h0 he
    go_wp2_with fail
    refine (undo_any _ b i _ E1.out.erv I1.out).mono ?_
    rintro ev w2 ⟨rfl, hI, hk⟩
    have I2 := Lib.hid hI
    have M2 := Lib.hid (M1.out.off1 hk HB.out)
    have E2 := Lib.hid (E1.out.kept hk I1.out.fault)
    have K2 := Lib.hid (K1.out.trans (US.one (m := m) (S := S) hk))
    clear hI hk
    go_wp2
    refine bodyPost_ret (results_none rfl _ _ _) rfl ?_
    exact ⟨rfl, M2.out, K2.out, .inr ⟨HE.out, _, E2.out, I2.out⟩⟩
end Go.Proofs.Ytabchlgbdlgacaa
