/- Package arena's Copy, and all its functions of nil, by contracts. -/
import Derived.Test.YtndlpmdgegodpaaDoorArLive
import Derived.StillTailTactics
namespace Go.Proofs.YtndlpmdgegodpaaDoor
open Go.RowKit

theorem setRow_old (w : World) (o : Obj) (cs : Array Value) (g : Nat) (hg : g < w.heap.size) : (w.alloc o).setRow g cs = (w.setRow g cs).alloc o := by
  unfold World.setRow World.alloc
  congr 1
  simp only
  apply Array.ext_getElem?
  intro i
  rw [Array.getElem?_modify, Array.getElem?_push, Array.getElem?_push, Array.size_modify, Array.getElem?_modify]
  by_cases h : g = i
  · subst h
    rw [if_pos rfl, if_neg (by omega), if_pos rfl, if_neg (by omega)]
  · rw [if_neg h, if_neg h]
theorem run_copySl (w : World) (ty : TypeId) (g n sb : Nat) (zs : Array Value) (ss : List Sl) (hg : w.heap[g]? = some (.cells zs 65 (0, 0))) (hz : zs.size = n * 3) (hx : SV lSlot w (.slice (some ⟨sb, 0, none⟩) n n) ss) (hn : ss.length = n) (h1n : 1 ≤ n) :
    (Builtin.copy_ #[60, 60] ty #[.slice (some ⟨g, 0, none⟩) n n, .slice (some ⟨sb, 0, none⟩) n n]).run Tryd.prog w = .ok (goInt n) (w.setRow g (lSlot.flat ss).toArray) := by
  obtain ⟨i, z, hi, hzz, hsz, hb, hzs⟩ := lSlot_known
  obtain ⟨a, cap, e1, e2, e3, e4, b, off, h5, h6⟩ := hx
  obtain ⟨rfl, -, rfl⟩ := Value.slice.inj e1
  have e := h5 (by omega) _ rfl
  obtain ⟨rfl, rfl⟩ : sb = b ∧ 0 = off := by simpa using e
  subst hn
  have hl := run_loadCells_list (P := Tryd.prog) w ⟨sb, 0, none⟩ (lSlot.flat ss) (fun j u hu => by rw [Addr.add_mid]; exact h6 j u hu)
  have hst := run_storeCells_at Tryd.prog g 0 65 (lSlot.flat ss) 0 zs w hg (by rw [lSlot.flat_len, hz]; simp [lSlot]) (lSlot.flat_one ss)
  have hd : zs.toList.drop (0 + 0 + (lSlot.flat ss).length) = [] := List.drop_eq_nil_of_le (by rw [lSlot.flat_len]; simp [hz, lSlot])
  rw [hd, List.append_nil, show zs.toList.take (0 + 0) = [] from rfl, List.nil_append] at hst
  rw [lSlot.flat_len] at hl
  have hu := Tryd.underlying60
  have hsz3 : i.size = 3 := hsz
  simp only [lSlot] at hi hl hst
  simp [Builtin.copy_, run_underlying hu, Builtin.lenOf, Builtin.firstCells, sizeOf, typeInfo, hi, hsz3, hl, hst, lSlot]
theorem wpList_copySl {w : World} {ops : Array Oper} {rest : List Oper} {o : Oper} {a : Act} {Q : Exit → Act → World → Prop} (hgd : o.guard = none) (d s : Operand)
    (ho : o.op = .call { callee := .builtin .copy, args := #[d, s], argTypes := #[60, 60] }) (g n sb : Nat) (zs : Array Value) (ss : List Sl) (hd : a.eval d = .slice (some ⟨g, 0, none⟩) n n) (hs : a.eval s = .slice (some ⟨sb, 0, none⟩) n n)
    (hg : w.heap[g]? = some (.cells zs 65 (0, 0))) (hz : zs.size = n * 3) (hx : SV lSlot w (.slice (some ⟨sb, 0, none⟩) n n) ss) (hn : ss.length = n) (h1n : 1 ≤ n) (hm : n ≤ 100000) (base : Nat) (hb : base ≤ g)
    (h : ∀ w', Hid (OwnS lSlot base w' (.slice (some ⟨g, 0, none⟩) n n) ss ∧ Kept (fun k => k = g) w w') → wpList Tryd.prog ops Q rest (a.put o.dst (goInt n)) w') : wpList Tryd.prog ops Q (o :: rest) a w := by
  refine wpList_plain hgd fun K hK => ?_
  have hrun := run_copySl w o.type g n sb zs ss hg hz hx hn h1n
  unfold Oper.wp
  simp [execOp, ho, resolve, invoke, builtin, hd, hs, hrun, Result.andThen]
  refine hK _ _ (h _ ⟨?_, ?_⟩)
  · subst hn
    exact ⟨lSlot.flat_len ss, .inr ⟨g, ss.length, (lSlot.flat ss).toArray, rfl, hb, setRow_heap w g _ _ _ _ hg, Nat.le_refl _, by simp [maxLen]; omega, by rw [List.size_toArray, lSlot.flat_len], by rw [← lSlot.flat_len]; simp⟩⟩
  · exact ⟨rfl, rfl, rfl, by simp [World.setRow], fun k hk hne => setRow_other w g k _ hne⟩
/-- the blocks from n to the heap's end -/
def NewB (n : Nat) (w : World) (j : Nat) : Prop := n ≤ j ∧ j < w.heap.size
theorem PtrAt.copied {w w' : World} {n0 sb n c base : Nat} {zs : List Sl} {p : Option Addr} {o : Option RecD} (h : PtrAt w (NewB n0 w) p o) (hk : Kept (fun j => j = sb) w w') (ho : OwnS lSlot base w (.slice (some ⟨sb, 0, none⟩) n c) zs) : PtrAt w' (NewB n0 w') p o := by
  refine (h.keep hk fun j _ => ?_).mono fun j hj => ⟨hj.1, Nat.lt_of_lt_of_le hj.2 hk.size⟩
  by_cases e : j = sb
  · subst e
    obtain ⟨cur, hc, -⟩ := ho.block
    exact .inr ⟨cur, _, hc, by decide, by decide, by decide⟩
  · exact .inl e
/-- Copy's loop: the first k slots have records of their own -/
structure CopyL (w wr : World) (n l k : Nat) (ps : List Pt) (ss zs : List Sl) : Prop where
  own : OwnS lSlot w.heap.size wr (.slice (some ⟨w.heap.size, 0, none⟩) n n) zs
  len : zs.length = n
  done : ∀ i, i < k → ∃ p, zs[i]? = some (((i + 1 : Nat) : Int), ((stOf ps (i + 1)).1 : Int), p) ∧ PtrAt wr (NewB w.heap.size wr) p (stOf ps (i + 1)).2
  todo : ∀ i, k ≤ i → zs[i]? = ss[i]?
  blk : wr.heap[w.heap.size + 1]? = some (.cells #[.slice (some ⟨w.heap.size, 0, none⟩) n n, .int .i64 (l : Int)] 62 (0, 0))
  low : Below w.heap.size w wr
theorem CopyL.next {w wr w5 : World} {n l k : Nat} {ps : List Pt} {ss zs : List Sl} (h : CopyL w wr n l k ps ss zs) {p : Option Addr} (hk : Kept (fun j => j = w.heap.size) wr w5) (hlt : k < n) (ho : OwnS lSlot w.heap.size w5 (.slice (some ⟨w.heap.size, 0, none⟩) n n) (zs.set k ((k : Int) + 1, ((stOf ps (k + 1)).1 : Int), p)))
    (hp : PtrAt w5 (NewB w.heap.size w5) p (stOf ps (k + 1)).2) : CopyL w w5 n l (k + 1) ps ss (zs.set k ((k : Int) + 1, ((stOf ps (k + 1)).1 : Int), p)) := by
  refine ⟨ho, by rw [List.length_set]; exact h.len, fun i hi => ?_, fun i hi => ?_, (hk.block _ (Array.getElem?_eq_some_iff.1 h.blk).1 (by omega)).trans h.blk, h.low.trans (hk.below (n := w.heap.size) (fun j hj => by omega) h.low.size)⟩
  · by_cases e : i = k
    · subst e
      exact ⟨p, by rw [List.getElem?_set, if_pos rfl, if_pos (by rw [h.len]; exact hlt)]; rfl, hp⟩
    · obtain ⟨p', a1, a2⟩ := h.done i (by omega)
      exact ⟨p', by rw [List.getElem?_set, if_neg (fun h => e h.symm)]; exact a1, a2.copied hk h.own⟩
  · rw [List.getElem?_set, if_neg (by omega)]
    exact h.todo i (by omega)
theorem CopyL.skip {w wr w5 : World} {n l k : Nat} {ps : List Pt} {ss zs : List Sl} (h : CopyL w wr n l k ps ss zs) (hk : Below wr.heap.size wr w5) {g : Int} (hz : zs[k]? = some ((k : Int) + 1, g, none)) (hg : g = ((stOf ps (k + 1)).1 : Int)) (hst : (stOf ps (k + 1)).2 = none) : CopyL w w5 n l (k + 1) ps ss zs := by
  have kk : Kept (fun j => j = w.heap.size) wr w5 := Kept.of_below hk
  refine ⟨h.own.below hk, h.len, fun i hi => ?_, fun i hi => h.todo i (by omega), blk_step h.blk hk, h.low.trans (hk.mono h.low.size)⟩
  by_cases e : i = k
  · subst e
    subst hg
    exact ⟨none, hz, by rw [hst]; rfl⟩
  · obtain ⟨p', a1, a2⟩ := h.done i (by omega)
    exact ⟨p', a1, a2.copied kk h.own⟩
theorem RB.of_blk {w : World} {b : Nat} {s : Sc} {rv ev : Value} (h : w.heap[b]? = some (recObj s rv ev)) : RB b s rv ev w :=
  ⟨blk_cell h 0, blk_cell h 1, blk_cell h 2, blk_cell h 3, blk_cell h 4, blk_cell h 5, blk_cell h 6, blk_cell h 7, blk_cell h 8, blk_cell h 9, blk_cell h 10, blk_cell h 11, blk_cell h 12, blk_cell h 13, blk_cell h 14⟩
set_option maxRecDepth 100000 in
set_option maxHeartbeats 4000000 in
theorem copy_any (a : Addr) (S : Nat → Prop) (n l : Nat) (ps : List Pt) (w : World) (h : ArInv w a S n l ps) :
    Calls Tryd.prog 15 #[.pointer (some a)] w fun ev w' => ∃ a' S', ev = .returned (.pointer (some a')) ∧ ArInv w' a' S' n l ps ∧ (∀ k, S' k → w.heap.size ≤ k) ∧ Below w.heap.size w w' := by
  obtain ⟨ab, sb, ss, rfl, I0⟩ := h
  have a0 : w.cell? ⟨ab, 0, none⟩ = some (.slice (some ⟨sb, 0, none⟩) n n) := blk_cell I0.blkA 0
  have a1 : w.cell? ⟨ab, 1, none⟩ = some (.int .i64 (l : Int)) := blk_cell I0.blkA 1
  have hn := okN_of I0.ok
  have I := Lib.hid I0
  have hmk := run_makeSl n (by omega)
  obtain ⟨Z, hZ⟩ : ∃ Z, Z = (lSlot.flat (fresh0 n 0)).toArray := ⟨_, rfl⟩
  have ZS := Lib.hid (show Z.size = n * 3 by rw [hZ, List.size_toArray, lSlot.flat_len, fresh0_len]; rfl)
  have ba := alloc_below0 w (.cells Z 65)
  have bb := alloc_below0 (w.alloc (.cells Z 65)) (.cells #[.slice (some ⟨w.heap.size, 0, none⟩) n n, .int .i64 (l : Int)] 62)
  have z1 : (w.alloc (.cells Z 65)).heap.size = w.heap.size + 1 := by simp
  have F0 := Lib.hid (show _ ∧ _ ∧ Below w.heap.size w _ from ⟨blk_step (blk_new w (.cells Z 65)) bb, z1 ▸ blk_new (w.alloc (.cells Z 65)) (.cells #[.slice (some ⟨w.heap.size, 0, none⟩) n n, .int .i64 (l : Int)] 62), ba.trans (bb.mono ba.size)⟩)
  rw [← hZ] at hmk
  have hab : ab < w.heap.size := lt_of_cell a0
  have hab2 : ¬ ab = w.heap.size := by omega
  clear I0 hZ ba bb z1
  go_enter Tryd.func15, Tryd.ntmps15
  go_wp2
  go_region
  go_wp2
  generalize hW2 : World.drew _ = W2
  have F2 := Lib.hid (show W2.heap[w.heap.size]? = some (.cells Z 65 (0, 0)) ∧ W2.heap[w.heap.size + 1]? = some (.cells #[.slice (some ⟨w.heap.size, 0, none⟩) n n, .int .i64 (l : Int)] 62 (0, 0)) ∧ Below w.heap.size w W2 from by rw [← hW2]; exact ⟨F0.out.1, F0.out.2.1, below_drewN F0.out.2.2 1⟩)
  have I2 := Lib.hid (I.out.low F2.out.2.2)
  have d0 : W2.cell? ⟨ab, 0, none⟩ = some (.slice (some ⟨sb, 0, none⟩) n n) := blk_cell I2.out.blkA 0
  have d1 : W2.cell? ⟨w.heap.size + 1, 0, none⟩ = some (.slice (some ⟨w.heap.size, 0, none⟩) n n) := blk_cell F2.out.2.1 0
  clear hW2 F0 a0 a1 hmk hab hab2
  go_still_tail 8, (by kernel_rfl)
  change wpList _ _ _ _ _ W2.drew
  have I3 := Lib.hid (show InvAt W2.drew ab sb ss S n l ps from I2.out.low (Below.refl _ _).drew)
  refine wpList_copySl rfl (.tmp 23) (.tmp 27) rfl w.heap.size n sb Z ss rfl rfl (show W2.drew.heap[w.heap.size]? = _ from F2.out.1) ZS.out I3.out.own.sv I3.out.len (by omega) (by omega) w.heap.size (Nat.le_refl _) ?_
  intro w3 h3
  have BD := Lib.hid (show Below w.heap.size w W2.drew from F2.out.2.2.drew)
  have B3 := Lib.hid (BD.out.trans (h3.out.2.below (n := w.heap.size) (fun k h => by omega) BD.out.size))
  have K3 := Lib.hid (show w3.heap[w.heap.size + 1]? = some (.cells #[.slice (some ⟨w.heap.size, 0, none⟩) n n, .int .i64 (l : Int)] 62 (0, 0)) from (h3.out.2.block _ (Array.getElem?_eq_some_iff.1 F2.out.2.1).1 (by omega)).trans F2.out.2.1)
  have O3 := Lib.hid h3.out.1
  have I4 := Lib.hid (I.out.low B3.out)
  clear h3 d0 d1 I2 F2 BD I3
  have d1 : w3.cell? ⟨w.heap.size + 1, 0, none⟩ = some (.slice (some ⟨w.heap.size, 0, none⟩) n n) := blk_cell K3.out 0
  go_wp2
  go_loopg [34] n (fun r y wr => ∃ (k : Nat) (zs : List Sl), k + r = n ∧ y = .int .i64 k ∧ CopyL w wr n l k ps ss zs)
  case atStart => exact ⟨0, ss, by omega, rfl, O3.out, I4.out.len, fun i hi => absurd hi (by omega), fun _ _ => rfl, K3.out, B3.out⟩
  case round =>
    obtain ⟨k, zs, hk, rfl, hC⟩ := hrel
    have A := Lib.hid (show CopyL w wr n l k ps ss zs ∧ k + gk = n from ⟨hC, hk⟩)
    have I5 := Lib.hid (I.out.low hC.low)
    clear hC d1
    by_cases hlt : k < n
    · obtain ⟨p, g1, g2, g3⟩ := I5.out.slot hlt
      have HZ := Lib.hid (show zs[k]? = some ((k : Int) + 1, ((stOf ps (k + 1)).1 : Int), p) from (A.out.1.todo k (Nat.le_refl _)).trans g1)
      have x0 := A.out.1.own.sv.cellAt (j := 0) HZ.out rfl
      have x1 := A.out.1.own.sv.cellAt (j := 1) HZ.out rfl
      have x2 := A.out.1.own.sv.cellAt (j := 2) HZ.out rfl
      simp only [lSlot, Nat.zero_add, Nat.add_zero] at x0 x1 x2
      have j3 : (0 : Int) ≤ (k : Int) := by omega
      have j4 : (k : Int) < (n : Int) := by omega
      cases hst : (stOf ps (k + 1)).2 with
      | some d =>
        rw [hst] at g2
        obtain ⟨q, rfl, hR⟩ := g2
        have R := Lib.hid hR
        have ST := Lib.hid hst
        obtain ⟨g, hgg⟩ : ∃ g, (stOf ps (k + 1)).1 = g := ⟨_, rfl⟩
        have GG := Lib.hid hgg
        rw [hgg] at HZ x1
        clear g1 g3 hst hR hgg
        obtain ⟨sc, rows, ents⟩ := d
        obtain ⟨rv, en, m1, m2, m3, -⟩ := R.out.mem
        have M := Lib.hid (show _ ∧ _ ∧ _ from ⟨m1, m2, m3⟩)
        clear m1 m2 m3
        go_wp2
        generalize hwa : World.alloc _ _ = wa
        have ba : Below wr.heap.size wr wa := by rw [← hwa]; exact alloc_below0 _ _
        have y2 : wa.cell? ⟨wr.heap.size, 2, none⟩ = some (.pointer (some ⟨q, 0, none⟩)) := by rw [← hwa, World.cell?_alloc_at _ _ _ _ rfl]; rfl
        have BA := Lib.hid ba
        have y0 : wa.cell? ⟨w.heap.size + 1, 0, none⟩ = some (.slice (some ⟨w.heap.size, 0, none⟩) n n) := blk_cell (blk_step A.out.1.blk ba) 0
        have RBk := Lib.hid (RB.of_blk (blk_step M.out.1 ba))
        have r0 := RBk.out.c0
        have r1 := RBk.out.c1
        have r2 := RBk.out.c2
        have r3 := RBk.out.c3
        have r4 := RBk.out.c4
        have r5 := RBk.out.c5
        have r6 := RBk.out.c6
        have r7 := RBk.out.c7
        have r8 := RBk.out.c8
        have r9 := RBk.out.c9
        have r10 := RBk.out.c10
        have r11 := RBk.out.c11
        have r12 := RBk.out.c12
        have r13 := RBk.out.c13
        have r14 := RBk.out.c14
        have MA := Lib.hid (show SV lRow wa rv rows ∧ SV lEnt wa en ents from ⟨(M.out.2.1.below ba).sv, (M.out.2.2.below ba).sv⟩)
        have OA := Lib.hid (A.out.1.own.below ba)
        have u1 : ¬ q = w.heap.size := by have := I.out.foot q R.out.here; omega
        have u2 : ¬ wr.heap.size = w.heap.size := by have := (Array.getElem?_eq_some_iff.1 A.out.1.blk).1; omega
        have u3 : ¬ w.heap.size = q := fun h => u1 h.symm
        have u4 : ¬ w.heap.size = wr.heap.size := fun h => u2 h.symm
        clear hwa ba x0 x1 x2
        go_region_held3 (fun w' => w'.cell? ⟨w.heap.size + 1, 0, none⟩ = some (.slice (some ⟨w.heap.size, 0, none⟩) n n) ∧ w'.cell? ⟨wr.heap.size, 2, none⟩ = some (.pointer (some ⟨q, 0, none⟩)) ∧ w'.cell? ⟨q, 0, none⟩ = some (.int .i64 sc.kind) ∧ w'.cell? ⟨q, 1, none⟩ = some (.string sc.low) ∧ w'.cell? ⟨q, 2, none⟩ = some (.string sc.high) ∧ w'.cell? ⟨q, 3, none⟩ = some (.bool sc.unb) ∧ w'.cell? ⟨q, 4, none⟩ = some (.int .i64 sc.right) ∧ w'.cell? ⟨q, 5, none⟩ = some rv ∧ w'.cell? ⟨q, 6, none⟩ = some en ∧ w'.cell? ⟨q, 7, none⟩ = some (.string sc.key) ∧ w'.cell? ⟨q, 8, none⟩ = some (.string sc.value) ∧ w'.cell? ⟨q, 9, none⟩ = some (.int .i64 sc.page) ∧ w'.cell? ⟨q, 10, none⟩ = some (.int .i64 sc.hp) ∧ w'.cell? ⟨q, 11, none⟩ = some (.int .i64 sc.hl) ∧ w'.cell? ⟨q, 12, none⟩ = some (.string sc.hk) ∧ w'.cell? ⟨q, 13, none⟩ = some (.int .i64 sc.ns) ∧ w'.cell? ⟨q, 14, none⟩ = some (.int .i64 sc.ng))
          (first | exact ⟨by assumption, by assumption, by assumption, by assumption, by assumption, by assumption, by assumption, by assumption, by assumption, by assumption, by assumption, by assumption, by assumption, by assumption, by assumption, by assumption, by assumption⟩ | go_keep)
          (first
            | (go_at_call 28; (with_reducible refine (own_any _ ⟨sc, rows, ents⟩ _ ?_ R.out.len1 R.out.len2).mono ?_); exact ⟨rv, en, rfl, MA.out.1.below (Below.refl _ _).drew, MA.out.2.below (Below.refl _ _).drew⟩; rintro e w4 ⟨q4, rfl, hq4, hr4, hs⟩; have P4 := Lib.hid (show _ ∧ _ ∧ Below wa.heap.size wa w4 from ⟨hq4, hr4, (Below.refl _ wa).drew.trans hs⟩); have s0 := cell_step y0 P4.out.2.2; have s2 := cell_step y2 P4.out.2.2; have t0 := cell_step r0 P4.out.2.2; have t1 := cell_step r1 P4.out.2.2; have t2 := cell_step r2 P4.out.2.2; have t3 := cell_step r3 P4.out.2.2; have t4 := cell_step r4 P4.out.2.2; have t5 := cell_step r5 P4.out.2.2; have t6 := cell_step r6 P4.out.2.2; have t7 := cell_step r7 P4.out.2.2; have t8 := cell_step r8 P4.out.2.2; have t9 := cell_step r9 P4.out.2.2; have t10 := cell_step r10 P4.out.2.2; have t11 := cell_step r11 P4.out.2.2; have t12 := cell_step r12 P4.out.2.2; have t13 := cell_step r13 P4.out.2.2; have t14 := cell_step r14 P4.out.2.2; have sO := Lib.hid (OA.out.below P4.out.2.2); have sf := sO.out.free (k * 3 + 2); have sc2 := sO.out.sv.cellAt (j := 2) HZ.out rfl; simp only [lSlot, Nat.zero_add] at sc2; clear hq4 hr4 hs))
        have KK := Lib.hid (show Kept (fun j => j = w.heap.size) wr (w4.setCell ⟨w.heap.size, k * 3 + 2, none⟩ (.pointer (some ⟨q4, 0, none⟩))) from (Kept.of_below (BA.out.trans (P4.out.2.2.mono BA.out.size))).setCell (k * 3 + 2) _)
        have T := Lib.hid (show CopyL w (w4.setCell ⟨w.heap.size, k * 3 + 2, none⟩ (.pointer (some ⟨q4, 0, none⟩))) n l (k + 1) ps ss (zs.set k ((k : Int) + 1, ((stOf ps (k + 1)).1 : Int), some ⟨q4, 0, none⟩)) by
          refine A.out.1.next KK.out hlt ?_ ?_
          · have s1 := sO.out.set (y := ((k : Int) + 1, (g : Int), some ⟨q4, 0, none⟩)) (u := .pointer (some ⟨q4, 0, none⟩)) HZ.out (j := 2) (by decide) rfl
            rw [GG.out]; exact s1
          · rw [ST.out]
            have hb := BA.out.size
            have hl := A.out.1.low.size
            have rr := RecAt.other P4.out.2.1 ((Kept.refl (fun j => j = w.heap.size) w4).setCell (k * 3 + 2) (.pointer (some ⟨q4, 0, none⟩))) (base := wa.heap.size) (fun j hj => by have := (Array.getElem?_eq_some_iff.1 A.out.1.blk).1; omega) P4.out.1
            obtain ⟨rv3, en3, v1, v2, v3⟩ := rr
            have hz : w.heap.size ≤ wa.heap.size := Nat.le_trans hl hb
            exact ⟨q4, rfl, ⟨Nat.le_trans hz P4.out.1, (Array.getElem?_eq_some_iff.1 v1).1⟩, R.out.len1, R.out.len2, rv3, en3, v1, v2.mono (Nat.zero_le _), v3.mono (Nat.zero_le _), fun j hj => ⟨Nat.le_trans hz (v2.bounds j hj).1, (v2.bounds j hj).2⟩, fun j hj => ⟨Nat.le_trans hz (v3.bounds j hj).1, (v3.bounds j hj).2⟩⟩)
        clear y0 y2 s0 s2 sO sf sc2 r0 r1 r2 r3 r4 r5 r6 r7 r8 r9 r10 r11 r12 r13 r14 t0 t1 t2 t3 t4 t5 t6 t7 t8 t9 t10 t11 t12 t13 t14
        go_wp2
        go_roundg (n - (k + 1))
        case measure => have := A.out.2; omega
        case rel => exact ⟨k + 1, _, by omega, by go_num, T.out⟩
      | none =>
        rw [hst] at g2
        obtain rfl : p = none := g2
        obtain ⟨g, hgg⟩ : ∃ g, ((stOf ps (k + 1)).1 : Int) = g := ⟨_, rfl⟩
        rw [hgg] at HZ x1
        have T := Lib.hid (A.out.1.skip (alloc_below0 wr (.cells #[.int .i64 ((k : Int) + 1), .int .i64 g, .pointer none] 65)) HZ.out hgg.symm hst)
        clear hst g1 g3 hgg
        go_wp2
        go_roundg (n - (k + 1))
        case measure => have := A.out.2; omega
        case rel => exact ⟨k + 1, zs, by omega, by go_num, T.out⟩
    · obtain rfl : k = n := by omega
      go_wp2
      go_ret
      refine ⟨_, NewB w.heap.size wr, rfl, ⟨_, _, zs, rfl, I5.out.ok, I5.out.val, I5.out.gen, fun j hj => hj.2, ?_, ?_, A.out.1.blk, A.out.1.own.mono (Nat.zero_le _), A.out.1.len, fun i hi => A.out.1.done i hi⟩, fun j hj => hj.1, A.out.1.low⟩
      · exact ⟨by omega, (Array.getElem?_eq_some_iff.1 A.out.1.blk).1⟩
      · exact ⟨Nat.le_refl _, by have := (Array.getElem?_eq_some_iff.1 A.out.1.blk).1; omega⟩
end Go.Proofs.YtndlpmdgegodpaaDoor
