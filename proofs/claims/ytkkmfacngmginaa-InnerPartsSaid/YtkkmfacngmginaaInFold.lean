/- Package inner's own functions (layer 8), by contracts: Fold. -/
import Derived.Test.YtkkmfacngmginaaInIndex
import Derived.Test.YtkkmfacngmginaaInAbove
import Derived.Test.YtkkmfacngmginaaInBottom
namespace Go.Proofs.Ytkkmfacngmginaa
open Go.RowKit

theorem OwnS.neHB {α : Type} {E : Lay α} {base : Nat} {w : World} {v : Value} {xs : List α} (h : OwnS E base w v xs) {n : Nat} {cs : Array Value} {T : TypeId} (hb : HB n (.cells cs T) w) (hne : E.ty ≠ T) : Out (fun x => x = n) v := fun a m d hv hs => by
  obtain ⟨_, h⟩ := h
  rcases h with ⟨rfl, -⟩ | ⟨g, cap, cur, rfl, -, hg, -⟩
  · cases hv
  · obtain ⟨e, -, -⟩ := Value.slice.inj hv
    obtain rfl := Option.some.inj e
    obtain rfl : g = n := hs
    have h1 := Option.some.inj (hg.symm.trans hb.b)
    exact hne (Obj.cells.inj h1).2.1
theorem opt_yes {o : Option IvD} {X : IvD} {t : Bool} (h1 : o.getD IvD.zero = X) (h2 : o.isSome = t) : (t = true → o = some X) ∧ (t = false → o = none) := by
  subst h1 h2
  cases o <;> simp
theorem fold_none : ∀ (l m : List RecD), m ≠ [] → foldI m = none → foldI (l ++ m) = none
  | [], _, _, h => h
  | r :: l, m, hm, h => by
    rw [List.cons_append, foldI_cons r (by simp [hm]), fold_none l m hm h]; rfl
/-- no text of a view is too long for any machine where none of the records' is -/
structure SzR (r : RecD) : Prop where
  sc : SzS r.sc
  ents : SmallE r.ents
theorem SmallE.sub {a b : List En} (h : SmallE b) (hs : ∀ e ∈ a, e ∈ b) : SmallE a := fun e he => h e (hs e he)
theorem step_sz {v v' : IvD} {r : RecD} (hv : SzI v) (hr : SzR r) (h : stepI v r = some v') : SzI v' := by
  have z0 : (⟨#[]⟩ : ByteArray).size ≤ maxLen := by decide
  unfold stepI at h
  split at h
  · cases h
  split at h
  · unfold putI at h
    split at h
    · obtain rfl := (Option.some.inj h).symm
      refine ⟨hv.low, hv.high, hv.hk, fun e he => ?_⟩
      unfold insE at he
      simp only [List.mem_append, List.mem_cons] at he
      rcases he with he | rfl | he
      · exact hv.ents e (List.mem_of_mem_take he)
      · exact hr.sc.key
      · exact hv.ents e (List.mem_of_mem_drop he)
    · cases h
  split at h
  · unfold splitI at h
    split at h
    · obtain rfl := (Option.some.inj h).symm
      exact ⟨hv.low, hr.sc.key, hv.hk, fun e he => hv.ents e (List.mem_of_mem_take he)⟩
    · cases h
  split at h
  · unfold holdI at h
    split at h
    · split at h
      · obtain rfl := (Option.some.inj h).symm
        exact ⟨hv.low, hv.high, hr.sc.hk, hv.ents⟩
      · cases h
    · cases h
  split at h
  · unfold dropI at h
    split at h
    · obtain rfl := (Option.some.inj h).symm
      refine ⟨hv.low, hv.high, z0, fun e he => ?_⟩
      rcases List.mem_append.1 he with he | he
      · exact hv.ents e (List.mem_of_mem_take he)
      · exact hv.ents e (List.mem_of_mem_drop he)
    · cases h
  · cases h
theorem fold_sz : ∀ {l : List RecD} {v : IvD}, (∀ r ∈ l, SzR r) → foldI l = some v → SzI v
  | [], _, _, h => by cases h
  | [r], v, hl, h => by
    have h' : baseI r = some v := h
    have hr := hl r (by simp)
    unfold baseI at h'
    split at h'
    · obtain rfl := (Option.some.inj h').symm
      exact ⟨hr.sc.low, hr.sc.high, by show 0 ≤ maxLen; decide, hr.ents⟩
    · cases h'
  | r :: s :: l, v, hl, h => by
    rw [foldI_cons r (by simp)] at h
    obtain ⟨u, hu, hs⟩ := Option.bind_eq_some_iff.1 h
    exact step_sz (fold_sz (fun x hx => hl x (List.mem_cons_of_mem _ hx)) hu) (hl r (by simp)) hs
theorem SzI.zero : SzI IvD.zero := ⟨by show 0 ≤ maxLen; decide, by show 0 ≤ maxLen; decide, by show 0 ≤ maxLen; decide, fun e h => (by cases h)⟩
theorem view_sz {l : List RecD} (hl : ∀ r ∈ l, SzR r) : SzI (viewI l) := by
  unfold viewI
  split
  · cases hf : foldI l with
    | none => exact SzI.zero
    | some v => exact fold_sz hl hf
  · exact SzI.zero
/-- what a round of Fold has: r records are left -/
structure FoR (B0 : World) (l : List RecD) (nb r : Nat) (t : Bool) (v : IvD) (en : Value) (wr : World) : Prop where
  H : HB nb (ivObj v en) wr
  O : OwnS lEnt B0.heap.size wr en v.ents
  B : Below B0.heap.size B0 wr
  lt : r < l.length
  y : t = true → foldI (l.drop r) = some v
  n : t = false → foldI (l.drop r) = none
set_option maxRecDepth 100000 in
set_option maxHeartbeats 4000000 in
theorem foldI_any (base : Nat) (u : Value) (ds : List RcD) (w : World) (hv : ChO base w u ds) (hl : ds.length ≤ 100) (hs : (ds.map fun d => d.ents.length).sum ≤ 1000) :
    Calls Try.prog 9 #[u] w fun ev w' => ∃ en, ev = .returned (.tuple #[ivVal (viewI (readC ds)) en, errV (codeI (readC ds))]) ∧ OwnS lEnt w.heap.size w' en (viewI (readC ds)).ents ∧ SzI (viewI (readC ds)) ∧ Below w.heap.size w w' := by
  have hnot : ∀ (x : Bool) (w : World), (Op.unary .not (.bool x)).run Try.prog w = .ok (.bool (!x)) w := fun _ _ => rfl
  obtain ⟨ua, uc, rfl, hlc, hcm⟩ := hv.own.sv.lenform
  obtain ⟨N, hN⟩ : ∃ N, ds.length = N := ⟨_, rfl⟩
  have LN := Lib.hid hN
  have SZ := Lib.hid (show SzI (viewI (readC ds)) from view_sz fun r hr => by obtain ⟨d, hd, rfl⟩ := List.mem_map.1 hr; exact ⟨(hv.all d hd).sz, (hv.all d hd).smallE⟩)
  have HS0 := Lib.hid (show ∀ r, totalI ((readC ds).drop r) ≤ 1000 from fun r => by
    have h1 : totalI (readC ds) ≤ 1000 := by rw [totalI_read]; exact hs
    have h2 : totalI (readC ds) = totalI ((readC ds).take r) + totalI ((readC ds).drop r) := by
      unfold totalI; rw [← List.sum_append, ← List.map_append, List.take_append_drop]
    omega)
  rw [hN] at hlc hl
  have HL := Lib.hid hl
  rw [hN]
  obtain ⟨W0, hW0⟩ : ∃ W, W = w.alloc ivZero := ⟨_, rfl⟩
  have B0 := Lib.hid (show Below w.heap.size w W0 by rw [hW0]; exact alloc_below0 _ _)
  have R0 := Lib.hid (show HB w.heap.size ivZero W0 by rw [hW0]; exact HB.new _ _)
  have Z := Lib.hid (show W0.heap.size = w.heap.size + 1 by rw [hW0]; simp)
  have CW := Lib.hid (show ChW W0 (.slice ua N uc) ds by rw [← hN]; exact hv.weak.below B0.out)
  unfold maxLen at hcm
  unfold ivZero at hW0
  clear hv hN hs
  go_enter Try.func9, Try.ntmps9
  go_wp2_with fail
  rw [← hW0]
  refine (containsF_any _ ds W0 CW.out.sv (by rw [LN.out]; omega)).mono ?_
  rintro ev w1 ⟨rfl, hs⟩
  have B1 := Lib.hid (B0.out.trans (hs.mono B0.out.size))
  have R1 := Lib.hid (R0.out.below hs)
  have CW1 := Lib.hid (CW.out.below hs)
  have Z1 := Lib.hid hs.size
  clear hW0 hs
  cases hi : (readC ds).all innerB with
  | false =>
    have PV := Lib.hid (show viewI (readC ds) = IvD.zero ∧ codeI (readC ds) = 9 from by unfold viewI codeI; rw [hi]; exact ⟨rfl, rfl⟩)
    clear hi
    go_wp2_with (refine wpList_store_mid rfl 29 (.tmp 2) (.tmp 10) rfl w.heap.size 0 (ivCells IvD.zero nilV).toArray rfl rfl ?_ ivInfoS (iv_one _ _ _ _) ?_; exact R1.out.there 9 (Nat.le_refl _))
    have B6 := below_setCells (b := w.heap.size) (Nat.le_refl w.heap.size) (ivCells IvD.zero nilV) 0 _ B1.out
    refine bodyPost_ret (v := .tuple #[.agg (ivCells IvD.zero nilV).toArray, .iface 73 (.int .i64 9)]) (results_cellT rfl _ _ w.heap.size _ _ _ rfl rfl (World.rangeAt_setCells_same _ _ 0 _ (R1.out.there 9 (Nat.le_refl _))) Try.underlying29 rfl ivInfoS) rfl ?_
    exact ⟨nilV, by rw [PV.out.1, PV.out.2]; rfl, by rw [PV.out.1]; exact OwnS.nil _ _ _, SZ.out, B6⟩
  | true =>
    have HI := Lib.hid hi
    clear hi
    by_cases hn0 : N = 0
    · subst hn0
      have hds : ds = [] := List.eq_nil_of_length_eq_zero LN.out
      have PV := Lib.hid (show viewI (readC ds) = IvD.zero ∧ codeI (readC ds) = 10 from by rw [hds]; exact ⟨rfl, rfl⟩)
      go_wp2_with (refine wpList_store_mid rfl 29 (.tmp 2) (.tmp 15) rfl w.heap.size 0 (ivCells IvD.zero nilV).toArray rfl rfl ?_ ivInfoS (iv_one _ _ _ _) ?_; exact R1.out.there 9 (Nat.le_refl _))
      have B6 := below_setCells (b := w.heap.size) (Nat.le_refl w.heap.size) (ivCells IvD.zero nilV) 0 _ B1.out
      refine bodyPost_ret (v := .tuple #[.agg (ivCells IvD.zero nilV).toArray, .iface 73 (.int .i64 10)]) (results_cellT rfl _ _ w.heap.size _ _ _ rfl rfl (World.rangeAt_setCells_same _ _ 0 _ (R1.out.there 9 (Nat.le_refl _))) Try.underlying29 rfl ivInfoS) rfl ?_
      exact ⟨nilV, by rw [PV.out.1, PV.out.2]; rfl, by rw [PV.out.1]; exact OwnS.nil _ _ _, SZ.out, B6⟩
    · have hnz : ((N : Int) == 0) = false := by rw [beq_eq_false_iff_ne]; omega
      obtain ⟨M, hM⟩ : ∃ M, N = M + 1 := ⟨N - 1, by omega⟩
      have i1 : IntKind.i64.wrap ((N : Int) - 1) = (M : Int) := by rw [Go.IntWalk.i64_in _ (by omega)]; omega
      have i2 : (N : Int) - 1 = (M : Int) := by omega
      have i3 : (M : Int) < (N : Int) := by omega
      have i4 : (0 : Int) ≤ (M : Int) := by omega
      have i5 : M < N := by omega
      have i6 : IntKind.i64.wrap ((M : Int) - 1) = (M : Int) - 1 := Go.IntWalk.i64_in _ (by omega)
      obtain ⟨b, off, ha⟩ := CW1.out.sv.addr (by rw [LN.out]; exact hn0)
      subst ha
      obtain ⟨d, hx⟩ : ∃ d, ds[M]? = some d := ⟨_, List.getElem?_eq_getElem (by rw [LN.out]; omega)⟩
      have DV := Lib.hid (CW1.out.all d (List.mem_of_getElem? hx))
      have hrng : w1.rangeAt b (off + M * 15) d.cells := fun j v hj => CW1.out.sv.cellAt (j := j) hx hj
      have HD := Lib.hid (show (readC ds).drop M = [d.d] from by
        have hr : (readC ds)[M]? = some d.d := by unfold readC; rw [List.getElem?_map, hx]; rfl
        have hk := (List.getElem?_eq_some_iff.1 hr).1
        rw [List.drop_eq_getElem_cons hk, List.drop_of_length_le (by have := LN.out; simp only [readC, List.length_map]; omega), (List.getElem?_eq_some_iff.1 hr).2])
      have HT := Lib.hid (show d.ents.length ≤ 2000 from by have := HS0.out M; rw [HD.out] at this; simp [totalI, RcD.d] at this; omega)
      obtain ⟨sc, ra, rc, ea, ec, rows, ents⟩ := d
      have NBO := Lib.hid (show ∀ x, w1.heap.size ≤ x → ¬ x = b → True from fun _ _ _ => trivial)
      clear hx
      go_wp2_with (refine wpList_load_mid rfl 39 (.tmp 23) rfl b (off + M * 15) rfl (RcD.cells ⟨sc, ra, rc, ea, ec, rows, ents⟩) _ hrng Try.underlying39 rfl (by kernel_rfl) ?_)
      refine (bottom_any sc rows ra rows.length rc (.slice ea ents.length ec) ents w1 DV.out.ents HT.out).mono ?_
      rintro ev w2 ⟨en2, rfl, ho, hs⟩
      obtain ⟨V0, hV0⟩ : ∃ V, (baseI ⟨sc, rows, ents⟩).getD IvD.zero = V := ⟨_, rfl⟩
      obtain ⟨t0, ht0⟩ : ∃ t, (baseI ⟨sc, rows, ents⟩).isSome = t := ⟨_, rfl⟩
      rw [hV0] at ho ⊢
      rw [ht0]
      obtain ⟨n2, hn2⟩ : ∃ n, V0.ents.length = n := ⟨_, rfl⟩
      obtain ⟨a2, c2, rfl, -, -⟩ := ho.lenN hn2
      have b3 := alloc_below0 w2 (ivObj V0 (.slice a2 n2 c2))
      have F0 := Lib.hid (show FoR w1 (readC ds) w2.heap.size M t0 V0 (.slice a2 n2 c2) (w2.alloc (ivObj V0 (.slice a2 n2 c2))) from ⟨HB.new _ _, ho.below b3, hs.trans (b3.mono hs.size), by have := LN.out; simp only [readC, List.length_map]; omega,
        fun h => HD.out ▸ (opt_yes hV0 ht0).1 h,
        fun h => HD.out ▸ (opt_yes hV0 ht0).2 h⟩)
      have NBS := Lib.hid (show w1.heap.size ≤ w2.heap.size from hs.size)
      have BB := Lib.hid (show b < w1.heap.size from lt_of_cell (hrng 0 _ rfl))
      unfold ivObj at F0
      clear hrng ho hs b3 hV0 ht0 hn2
      unfold ivVal
      go_wp2
      go_loopg [6, 7] M (fun r vo vi wr => ∃ (t : Bool) (v : IvD) (a3 : Option Addr) (n3 c3 : Nat), vo = .bool t ∧ vi = .int .i64 ((r : Int) - 1) ∧ FoR w1 (readC ds) w2.heap.size r t v (.slice a3 n3 c3) wr)
      case atStart => exact ⟨t0, V0, a2, n2, c2, rfl, rfl, F0.out⟩
      case round =>
        obtain ⟨t, v, xa, nx, xc, rfl, rfl, hF⟩ := hrel
        have A := Lib.hid hF
        have B4 := Lib.hid (B1.out.trans (hF.B.mono B1.out.size))
        have R4 := Lib.hid (R1.out.below hF.B)
        clear hF
        cases t with
        | false =>
          have PV := Lib.hid (show viewI (readC ds) = IvD.zero ∧ codeI (readC ds) = 10 from by
            refine (code_no HI.out ?_).symm
            rw [← List.take_append_drop gk (readC ds)]
            exact fold_none _ _ (by intro h; have := A.out.lt; have h2 := congrArg List.length h; simp only [List.length_drop, List.length_nil] at h2; omega) (A.out.n rfl))
          go_wp2_with (refine wpList_store_mid rfl 29 (.tmp 2) (.tmp 48) rfl w.heap.size 0 (ivCells IvD.zero nilV).toArray rfl rfl ?_ ivInfoS (iv_one _ _ _ _) ?_; exact R4.out.there 9 (Nat.le_refl _))
          have B6 := below_setCells (b := w.heap.size) (Nat.le_refl w.heap.size) (ivCells IvD.zero nilV) 0 _ B4.out
          refine bodyPost_ret (v := .tuple #[.agg (ivCells IvD.zero nilV).toArray, .iface 73 (.int .i64 10)]) (results_cellT rfl _ _ w.heap.size _ _ _ rfl rfl (World.rangeAt_setCells_same _ _ 0 _ (R4.out.there 9 (Nat.le_refl _))) Try.underlying29 rfl ivInfoS) rfl ?_
          exact ⟨nilV, by rw [PV.out.1, PV.out.2]; rfl, by rw [PV.out.1]; exact OwnS.nil _ _ _, SZ.out, B6⟩
        | true =>
          cases gk with
          | zero =>
            have PV := Lib.hid (show viewI (readC ds) = v ∧ codeI (readC ds) = 0 from (code_yes HI.out (by have := A.out.y rfl; rwa [List.drop_zero] at this)).symm)
            have rg := iv_range A.out.H
            have e0 : (((0 : Nat) : Int) - 1) = -1 := rfl
            rw [e0]
            clear e0
            go_wp2_with (first | (refine wpList_load_mid rfl 29 (.tmp 5) rfl w2.heap.size 0 rfl (ivCells v (.slice xa nx xc)) _ ?_ Try.underlying29 rfl ivInfoS ?_; exact rg) | (refine wpList_store_mid rfl 29 (.tmp 2) (.tmp 50) rfl w.heap.size 0 (ivCells v (.slice xa nx xc)).toArray rfl rfl ?_ ivInfoS (iv_one _ _ _ _) ?_; exact R4.out.there 9 (Nat.le_refl _)))
            have O7 := A.out.O.sets (b := w.heap.size) (by have := Z1.out; have := Z.out; omega) 0 (ivCells v (.slice xa nx xc))
            have B8 := below_setCells (b := w.heap.size) (Nat.le_refl w.heap.size) (ivCells v (.slice xa nx xc)) 0 _ B4.out
            refine bodyPost_ret (v := .tuple #[.agg (ivCells v (.slice xa nx xc)).toArray, .nilIface]) (results_cellT rfl _ _ w.heap.size _ _ _ rfl rfl (World.rangeAt_setCells_same _ _ 0 _ (R4.out.there 9 (Nat.le_refl _))) Try.underlying29 rfl ivInfoS) rfl ?_
            exact ⟨_, by rw [PV.out.1, PV.out.2]; rfl, by rw [PV.out.1]; exact O7.mono (by have := Z1.out; have := Z.out; omega), SZ.out, B8⟩
          | succ i =>
            have e0 : (((i + 1 : Nat) : Int) - 1) = (i : Int) := by omega
            rw [e0]
            clear e0
            have hiM : i < M + 1 := by have h1 := A.out.lt; have h2 := LN.out; simp only [readC, List.length_map] at h1; omega
            obtain ⟨d, hx⟩ : ∃ d, ds[i]? = some d := ⟨_, List.getElem?_eq_getElem (by rw [LN.out]; omega)⟩
            have HR := Lib.hid (show ∀ w', Below w1.heap.size w1 w' → w'.rangeAt b (off + i * 15) d.cells from fun w' hs j u hj => cell_step (CW1.out.sv.cellAt (j := j) hx hj) hs)
            have SD := Lib.hid (HR.out wr.drew A.out.B.drew)
            have ST := Lib.hid (show foldI ((readC ds).drop i) = stepI v d.d from by
              have hr : (readC ds)[i]? = some d.d := by unfold readC; rw [List.getElem?_map, hx]; rfl
              have hk := (List.getElem?_eq_some_iff.1 hr).1
              rw [List.drop_eq_getElem_cons hk, (List.getElem?_eq_some_iff.1 hr).2, foldI_cons _ (by intro h; have := A.out.lt; have h2 := congrArg List.length h; simp only [List.length_drop, List.length_nil] at h2; omega), A.out.y rfl]; rfl)
            obtain ⟨sc, ra, rc, ea, ec, rows, ents⟩ := d
            have GD := Lib.hid (goodI_fold (A.out.y rfl))
            have HN := Lib.hid (show v.ents.length ≤ 2000 from by have h1 := fold_lenT (A.out.y rfl); have h2 := HS0.out (i + 1); have h3 := LN.out; simp only [List.length_drop, readC, List.length_map] at h1; simp only [readC] at h2; have := HL.out; omega)
            have OD := Lib.hid (show OwnS lEnt w1.heap.size wr.drew (.slice xa nx xc) v.ents from A.out.O.below (Below.refl _ _).drew)
            have HD := Lib.hid (show HB w2.heap.size (ivObj v (.slice xa nx xc)) wr.drew from A.out.H.drew)
            have NB := Lib.hid (show ¬ b = w2.heap.size from by have := BB.out; have := NBS.out; omega)
            have j1 : (0 : Int) ≤ (i : Int) := by omega
            have j2 : (i : Int) < ((M + 1 : Nat) : Int) := by omega
            have j3 : (i : Int) < (M : Int) + 1 := by omega
            have j4 : IntKind.i64.wrap ((i : Int) - 1) = (i : Int) - 1 := Go.IntWalk.i64_in _ (by omega)
            clear hx
            go_wp2_with fail
            refine AnyBut.region (fun w' => w'.rangeAt b (off + i * 15) (RcD.cells ⟨sc, ra, rc, ea, ec, rows, ents⟩)) 10 (by kernel_rfl) ?_
            refine AnyBut.take (i := 1) (oi := ⟨some 39, _, _, _, _, none⟩) (v := ?va1) rfl (by kernel_rfl) (by kernel_rfl) (by kernel_rfl) (by kernel_rfl) (fun _ _ _ h => h) (Or.inl ⟨by rfl, ?hya1⟩) SD.out ?resta1
            case hya1 => (intro w hSw; go_simp; try (with_reducible rfl))
            simp only [Act.put, List.setIfInBounds_toArray, List.set_cons_zero, List.set_cons_succ]
            refine AnyBut.take (i := 2) (oi := ⟨some 40, _, _, _, _, none⟩) (v := ?va2) rfl (by kernel_rfl) (by kernel_rfl) (by kernel_rfl) (by kernel_rfl) (fun _ _ _ h => h) (Or.inl ⟨by rfl, ?hya2⟩) SD.out ?resta2
            case hya2 => (intro w hSw; go_simp; try (with_reducible rfl))
            simp only [Act.put, List.setIfInBounds_toArray, List.set_cons_zero, List.set_cons_succ]
            refine AnyBut.take (i := 3) (oi := ⟨some 41, _, _, _, _, none⟩) (v := ?va3) rfl (by kernel_rfl) (by kernel_rfl) (by kernel_rfl) (by kernel_rfl) (fun _ _ _ h => h) (Or.inl ⟨by rfl, ?hya3⟩) SD.out ?resta3
            case hya3 => (intro w hSw; go_simp; try (with_reducible rfl))
            simp only [Act.put, List.setIfInBounds_toArray, List.set_cons_zero, List.set_cons_succ]
            refine AnyBut.take (i := 4) (oi := ⟨some 42, _, _, _, _, none⟩) (v := .agg (RcD.cells ⟨sc, ra, rc, ea, ec, rows, ents⟩).toArray) rfl (by kernel_rfl) (by kernel_rfl) (by kernel_rfl) (by kernel_rfl) (fun _ _ _ h => h) (yieldsIf_load_mid (by rfl) 39 (.tmp 41) rfl b (off + i * 15) rfl (RcD.cells ⟨sc, ra, rc, ea, ec, rows, ents⟩) _ (fun w h => h) Try.underlying39 rfl recInfoS) SD.out ?resta4
            simp only [Act.put, List.setIfInBounds_toArray, List.set_cons_zero, List.set_cons_succ]
            refine AnyBut.one (i := 0) (o := ⟨some 38, _, _, _, _, none⟩) (by kernel_rfl) rfl (fun K hK => ?_)
            rw [if_pos (by rfl)]
            refine wp_load_mid 29 (.tmp 5) rfl w2.heap.size 0 rfl (ivCells v (.slice xa nx xc)) _ (iv_range HD.out) Try.underlying29 rfl ivInfoS ?_
            refine hK.out _ _ (fun _ => SD.out) ?_
            clear hK K
            try simp only [Act.put, List.setIfInBounds_toArray, List.set_cons_zero, List.set_cons_succ]
            refine AnyBut.one (i := 5) (o := ⟨some 43, _, _, _, _, none⟩) (by kernel_rfl) rfl (fun K hK => ?_)
            go_simp
            refine (above_any w1.heap.size v (.slice xa nx xc) sc rows ents ra rows.length rc ea ents.length ec wr.drew OD.out GD.out HN.out).mono ?_
            rintro ev w3 ⟨en3, rfl, ho, hs⟩
            obtain ⟨X, hX⟩ : ∃ X, (stepI v ⟨sc, rows, ents⟩).getD IvD.zero = X := ⟨_, rfl⟩
            obtain ⟨t, ht⟩ : ∃ t, (stepI v ⟨sc, rows, ents⟩).isSome = t := ⟨_, rfl⟩
            rw [hX] at ho ⊢
            rw [ht]
            obtain ⟨n3, hn3⟩ : ∃ n, X.ents.length = n := ⟨_, rfl⟩
            obtain ⟨a3, c3, rfl, -, -⟩ := ho.lenN hn3
            have O3 := Lib.hid (ho.mono (show w1.heap.size ≤ min w1.heap.size wr.drew.heap.size from Nat.le_min.2 ⟨Nat.le_refl _, A.out.B.size⟩))
            have HX := Lib.hid hX
            have HT := Lib.hid ht
            have B3 := Lib.hid ((Below.refl wr.heap.size wr).drew.trans hs)
            have S3 := Lib.hid (show (fun w' => w'.rangeAt b (off + i * 15) (RcD.cells ⟨sc, ra, rc, ea, ec, rows, ents⟩)) w3 from HR.out w3 (A.out.B.trans (B3.out.mono A.out.B.size)))
            clear hX ht hn3 ho hs
            unfold ivVal
            refine hK.out _ _ (fun _ => S3.out) ?_
            clear hK K
            try simp only [Act.put, List.setIfInBounds_toArray, List.set_cons_zero, List.set_cons_succ]
            refine AnyBut.one (i := 6) (o := ⟨some 37, _, _, _, _, none⟩) (by kernel_rfl) rfl (fun K hK => ?_)
            go_simp
            refine hK.out _ _ (fun _ => S3.out) ?_
            clear hK K
            try simp only [Act.put, List.setIfInBounds_toArray, List.set_cons_zero, List.set_cons_succ]
            refine AnyBut.take (i := 7) (oi := ⟨some 44, _, _, _, _, none⟩) (v := ?va7) rfl (by kernel_rfl) (by kernel_rfl) (by kernel_rfl) (by kernel_rfl) (fun _ _ _ h => h) (Or.inl ⟨by rfl, ?hya7⟩) S3.out ?resta7
            case hya7 => (intro w hSw; go_simp; try (with_reducible rfl))
            simp only [Act.put, List.setIfInBounds_toArray, List.set_cons_zero, List.set_cons_succ]
            refine AnyBut.take (i := 8) (oi := ⟨some 45, _, _, _, _, none⟩) (v := ?va8) rfl (by kernel_rfl) (by kernel_rfl) (by kernel_rfl) (by kernel_rfl) (fun _ _ _ h => h) (Or.inl ⟨by rfl, ?hya8⟩) S3.out ?resta8
            case hya8 => (intro w hSw; go_simp; try (with_reducible rfl))
            simp only [Act.put, List.setIfInBounds_toArray, List.set_cons_zero, List.set_cons_succ]
            have H3 := Lib.hid (A.out.H.below B3.out)
            have OT := Lib.hid (O3.out.neHB H3.out (show lEnt.ty ≠ 29 by decide))
            have SR := Lib.hid (show (fun w' => w'.rangeAt b (off + i * 15) (RcD.cells ⟨sc, ra, rc, ea, ec, rows, ents⟩)) (w3.setCells w2.heap.size 0 (ivCells X (.slice a3 n3 c3))) from fun j u hj => (Kept.setCells (ivCells X (.slice a3 n3 c3)) 0 w3 (Kept.refl (fun x => x = w2.heap.size) w3)).cell (NB.out) (S3.out j u hj))
            refine AnyBut.one (i := 9) (o := ⟨none, _, _, _, _, none⟩) (by kernel_rfl) rfl (fun K hK => ?_)
            rw [if_pos (by rfl)]
            refine wp_store_mid 29 (.tmp 5) (.tmp 44) rfl w2.heap.size 0 (ivCells X (.slice a3 n3 c3)).toArray rfl rfl (H3.out.there 9 (Nat.le_refl _)) ivInfoS (iv_one _ _ _ _) ?_
            refine hK.out _ _ (fun _ => SR.out) ?_
            clear hK K
            try simp only [Act.put]
            refine AnyBut.one (i := 10) (o := ⟨some 6, _, _, _, _, none⟩) (by kernel_rfl) rfl (fun K hK => ?_)
            go_simp
            refine hK.out _ _ (fun h => absurd rfl h) ?_
            clear hK K
            try simp only [Act.put, List.setIfInBounds_toArray, List.set_cons_zero, List.set_cons_succ]
            refine AnyBut.done (by kernel_rfl) ?_ _
            have F3 := Lib.hid (show FoR w1 (readC ds) w2.heap.size i t X (.slice a3 n3 c3) (w3.setCells w2.heap.size 0 (ivCells X (.slice a3 n3 c3))) from
              ⟨H3.out.sets _ rfl, O3.out.kept (Kept.setCells _ 0 _ (Kept.refl (fun x => x = w2.heap.size) w3)) OT.out, below_setCells NBS.out _ 0 _ (A.out.B.trans (B3.out.mono A.out.B.size)), by have := A.out.lt; omega,
               fun h => ST.out.trans ((opt_yes HX.out HT.out).1 h),
               fun h => ST.out.trans ((opt_yes HX.out HT.out).2 h)⟩)
            generalize hW3 : World.setCells w3 _ _ _ = W3 at *
            clear hW3
            go_wp2
            go_roundg i
            case measure => omega
            case rel => exact ⟨t, X, a3, n3, c3, rfl, rfl, F3.out⟩
end Go.Proofs.Ytkkmfacngmginaa
