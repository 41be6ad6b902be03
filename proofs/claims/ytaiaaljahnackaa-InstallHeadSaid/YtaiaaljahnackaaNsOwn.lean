/- Package install's own, by contract. -/
import Derived.Test.YtaiaaljahnackaaNsFill
import Derived.OrdersHeld
import Derived.Deep.RegionHeld
import Derived.StillTail
import Derived.Test.YtaiaaljahnackaaArLast
namespace Go.Proofs.Ytaiaaljahnackaa
open Go.RowKit

theorem OwnS.lowN {α : Type} {E : Lay α} {base : Nat} {w w' : World} {v : Value} {xs : List α} (h : OwnS E base w v xs) (hs : Below w.heap.size w w') : OwnS E base w' v xs := h.below hs
set_option maxRecDepth 100000 in
set_option maxHeartbeats 4000000 in
theorem clone_rows (v : Value) (xs : List Rw) (w : World) (hv : SV lRow w v xs) (hl : xs.length ≤ 100000) :
    Calls Try.prog 73 #[v] w fun ev w' => ∃ v', ev = .returned v' ∧ OwnS lRow w.heap.size w' v' xs ∧ Below w.heap.size w w' := by
  obtain ⟨a, cap, rfl, hlc, hcm⟩ := hv.lenform
  cases a with
  | none =>
    have hx : xs = [] := by
      obtain ⟨a', cap', h1, h2, h3, h4, -⟩ := hv
      obtain ⟨rfl, -, rfl⟩ := Value.slice.inj h1
      have := h4 rfl
      exact List.eq_nil_of_length_eq_zero (by omega)
    subst hx
    obtain rfl : cap = 0 := by
      obtain ⟨a', cap', h1, h2, h3, h4, -⟩ := hv
      obtain ⟨-, -, rfl⟩ := Value.slice.inj h1
      exact h4 (Value.slice.inj h1).1.symm
    have hq : ∀ w : World, (Go.binOp BinOp.eql 39 (.slice none 0 0) (.slice none 0 0)).run Try.prog w = .ok (.bool true) w := fun _ => rfl
    go_enter Try.func73, Try.ntmps73
    go_wp2
    go_ret
    exact ⟨_, rfl, OwnS.nil lRow _ _, Below.refl _ _⟩
  | some y =>
    have hq : ∀ w : World, (Go.binOp BinOp.eql 39 (.slice (some y) xs.length cap) (.slice none 0 0)).run Try.prog w = .ok (.bool false) w := fun _ => rfl
    have hb := alloc_below0 w (.cells #[] lRow.ty)
    have O1 := Lib.hid (show OwnS lRow w.heap.size (w.alloc (.cells #[] lRow.ty)) (.slice (some ⟨w.heap.size, 0, none⟩) 0 0) ([] : List Rw) from OwnS.lit lRow w.heap.size w w.heap.size rfl [] (Nat.le_refl _) (by simp))
    have S1 := Lib.hid (hv.below hb)
    have B1 := Lib.hid hb
    have H1 := Lib.hid (show ([] : List Rw).length + xs.length ≤ 100000 by simpa using hl)
    clear hv hl hb
    simp only [lRow] at B1
    go_enter Try.func73, Try.ntmps73
    go_wp2_with (refine wpList_appS lRow 39 Try.underlying39 lRow_known (by decide) (by decide) rfl (.tmp 5) (.tmp 6) rfl w.heap.size rfl rfl O1.out S1.out H1.out B1.out.size ?_; intro v6 w6 ho6 hg6; have O6 := Lib.hid ho6; have B6 := Lib.hid (B1.out.trans ((Kept.of_grown hg6).below (fun k hk => (O1.out.bounds k hk.symm).1) B1.out.size)); clear ho6 hg6)
    go_ret
    exact ⟨_, rfl, by simpa using O6.out, B6.out⟩
set_option maxRecDepth 100000 in
set_option maxHeartbeats 4000000 in
theorem clone_ents (v : Value) (xs : List En) (w : World) (hv : SV lEnt w v xs) (hl : xs.length ≤ 100000) :
    Calls Try.prog 74 #[v] w fun ev w' => ∃ v', ev = .returned v' ∧ OwnS lEnt w.heap.size w' v' xs ∧ Below w.heap.size w w' := by
  obtain ⟨a, cap, rfl, hlc, hcm⟩ := hv.lenform
  cases a with
  | none =>
    have hx : xs = [] := by
      obtain ⟨a', cap', h1, h2, h3, h4, -⟩ := hv
      obtain ⟨rfl, -, rfl⟩ := Value.slice.inj h1
      have := h4 rfl
      exact List.eq_nil_of_length_eq_zero (by omega)
    subst hx
    obtain rfl : cap = 0 := by
      obtain ⟨a', cap', h1, h2, h3, h4, -⟩ := hv
      obtain ⟨-, -, rfl⟩ := Value.slice.inj h1
      exact h4 (Value.slice.inj h1).1.symm
    have hq : ∀ w : World, (Go.binOp BinOp.eql 40 (.slice none 0 0) (.slice none 0 0)).run Try.prog w = .ok (.bool true) w := fun _ => rfl
    go_enter Try.func74, Try.ntmps74
    go_wp2
    go_ret
    exact ⟨_, rfl, OwnS.nil lEnt _ _, Below.refl _ _⟩
  | some y =>
    have hq : ∀ w : World, (Go.binOp BinOp.eql 40 (.slice (some y) xs.length cap) (.slice none 0 0)).run Try.prog w = .ok (.bool false) w := fun _ => rfl
    have hb := alloc_below0 w (.cells #[] lEnt.ty)
    have O1 := Lib.hid (show OwnS lEnt w.heap.size (w.alloc (.cells #[] lEnt.ty)) (.slice (some ⟨w.heap.size, 0, none⟩) 0 0) ([] : List En) from OwnS.lit lEnt w.heap.size w w.heap.size rfl [] (Nat.le_refl _) (by simp))
    have S1 := Lib.hid (hv.below hb)
    have B1 := Lib.hid hb
    have H1 := Lib.hid (show ([] : List En).length + xs.length ≤ 100000 by simpa using hl)
    clear hv hl hb
    simp only [lEnt] at B1
    go_enter Try.func74, Try.ntmps74
    go_wp2_with (refine wpList_appS lEnt 40 Try.underlying40 lEnt_known (by decide) (by decide) rfl (.tmp 5) (.tmp 6) rfl w.heap.size rfl rfl O1.out S1.out H1.out B1.out.size ?_; intro v6 w6 ho6 hg6; have O6 := Lib.hid ho6; have B6 := Lib.hid (B1.out.trans ((Kept.of_grown hg6).below (fun k hk => (O1.out.bounds k hk.symm).1) B1.out.size)); clear ho6 hg6)
    go_ret
    exact ⟨_, rfl, by simpa using O6.out, B6.out⟩
set_option maxRecDepth 100000 in
set_option maxHeartbeats 4000000 in
theorem clone_ints (v : Value) (xs : List Int) (w : World) (hv : SV lInt w v xs) (hl : xs.length ≤ 100000) :
    Calls Try.prog 47 #[v] w fun ev w' => ∃ v', ev = .returned v' ∧ OwnS lInt w.heap.size w' v' xs ∧ Below w.heap.size w w' := by
  obtain ⟨a, cap, rfl, hlc, hcm⟩ := hv.lenform
  cases a with
  | none =>
    have hx : xs = [] := by
      obtain ⟨a', cap', h1, h2, h3, h4, -⟩ := hv
      obtain ⟨rfl, -, rfl⟩ := Value.slice.inj h1
      have := h4 rfl
      exact List.eq_nil_of_length_eq_zero (by omega)
    subst hx
    obtain rfl : cap = 0 := by
      obtain ⟨a', cap', h1, h2, h3, h4, -⟩ := hv
      obtain ⟨-, -, rfl⟩ := Value.slice.inj h1
      exact h4 (Value.slice.inj h1).1.symm
    have hq : ∀ w : World, (Go.binOp BinOp.eql 62 (.slice none 0 0) (.slice none 0 0)).run Try.prog w = .ok (.bool true) w := fun _ => rfl
    go_enter Try.func47, Try.ntmps47
    go_wp2
    go_ret
    exact ⟨_, rfl, OwnS.nil lInt _ _, Below.refl _ _⟩
  | some y =>
    have hq : ∀ w : World, (Go.binOp BinOp.eql 62 (.slice (some y) xs.length cap) (.slice none 0 0)).run Try.prog w = .ok (.bool false) w := fun _ => rfl
    have hb := alloc_below0 w (.cells #[] lInt.ty)
    have O1 := Lib.hid (show OwnS lInt w.heap.size (w.alloc (.cells #[] lInt.ty)) (.slice (some ⟨w.heap.size, 0, none⟩) 0 0) ([] : List Int) from OwnS.lit lInt w.heap.size w w.heap.size rfl [] (Nat.le_refl _) (by simp))
    have S1 := Lib.hid (hv.below hb)
    have B1 := Lib.hid hb
    have H1 := Lib.hid (show ([] : List Int).length + xs.length ≤ 100000 by simpa using hl)
    clear hv hl hb
    simp only [lInt] at B1
    go_enter Try.func47, Try.ntmps47
    go_wp2_with (refine wpList_appS lInt 62 Try.underlying62 lInt_known (by decide) (by decide) rfl (.tmp 5) (.tmp 6) rfl w.heap.size rfl rfl O1.out S1.out H1.out B1.out.size ?_; intro v6 w6 ho6 hg6; have O6 := Lib.hid ho6; have B6 := Lib.hid (B1.out.trans ((Kept.of_grown hg6).below (fun k hk => (O1.out.bounds k hk.symm).1) B1.out.size)); clear ho6 hg6)
    go_ret
    exact ⟨_, rfl, by simpa using O6.out, B6.out⟩

open Go
section
variable {P : Program} {ops : Array Oper} {Q : Exit → Act → World → Prop} {md : Region.Mode} {S : World → Prop} {Z : List Nat}

/-- whatever order is picked from here on, S holds behind every operation but those of Z -/
def ButZ (P : Program) (md : Region.Mode) (ops : Array Oper) (Q : Exit → Act → World → Prop) (S : World → Prop) (Z : List Nat) : Nat → Array Bool → Act → World → Prop
  | 0, listed, a, w => Region.ready md ops listed = [] ∧ Q .normal a w
  | f + 1, listed, a, w => (Region.ready md ops listed = [] → Q .normal a w) ∧
    ∀ i ∈ Region.ready md ops listed, wpOp P ops Q i (fun a' w' => (i ∉ Z → S w') ∧ ButZ P md ops Q S Z f (listed.setIfInBounds i true) a' w') a w
theorem ButZ.plain : ∀ (f : Nat) (listed : Array Bool) (a : Act) (w : World), ButZ P md ops Q S Z f listed a w → wpAny P md ops Q f listed a w
  | 0, _, _, _, h => h
  | f + 1, _, _, _, h => ⟨h.1, fun i hi => wpOp_mono (fun a' w' k => ButZ.plain f _ a' w' k.2) (h.2 i hi)⟩
/-- an operation that z waits for may be taken first if it yields wherever S holds -/
theorem ButZ.front {i : Nat} {oi : Oper} {v : Value} (hi : ops[i]? = some oi) (hsel : ∀ (j : Nat) (o : Oper) cs b, ops[j]? = some o → o.op ≠ .select cs b)
    (hQ : ∀ c a w, Q (.panic c) (a.put oi.dst v) w → Q (.panic c) a w) (hz : Z.all (fun z => Region.waitsFor md ops z i) = true) :
    ∀ (f : Nat) (listed : Array Bool) (a : Act) (w : World), Region.free md ops listed i = true → i ∈ Region.ready md ops listed → YieldsIf P ops S oi v a → S w →
      ButZ P md ops Q S Z f (listed.setIfInBounds i true) (a.put oi.dst v) w → ButZ P md ops Q S Z (f + 1) listed a w := by
  have nz : ∀ {listed : Array Bool} {j : Nat}, i ∈ Region.ready md ops listed → j ∈ Region.ready md ops listed → j ∉ Z := by
    intro listed j h1 h2 e
    obtain ⟨oz, ho, e, he, hb, hon⟩ := Region.waitsFor_spec (List.all_eq_true.1 hz j e)
    obtain ⟨-, o2, ho2, hall⟩ := mem_ready.1 h2
    rw [ho] at ho2
    obtain rfl := Option.some.inj ho2
    have h3 := hall e he hb
    rw [hon] at h3
    have h4 := getD_both (mem_ready.1 h1).1
    rw [h3] at h4
    exact absurd h4 (by decide)
  intro f
  induction f with
  | zero =>
    intro listed a w hf hr hy hS H
    refine ⟨fun h0 => absurd hr (by rw [h0]; simp), fun j hj => ?_⟩
    by_cases e : j = i
    · subst e
      exact hy.wpOp hi hS ⟨fun _ => hS, H⟩
    · have := ready_mono hj e
      rw [H.1] at this
      cases this
  | succ f ih =>
    intro listed a w hf hr hy hS H
    refine ⟨fun h0 => absurd hr (by rw [h0]; simp), fun j hj => ?_⟩
    by_cases e : j = i
    · subst e
      exact hy.wpOp hi hS ⟨fun _ => hS, H⟩
    · obtain ⟨hun, oj, hoj, hall⟩ := mem_ready.1 hj
      have hap : oi.apart ops oj = true := Region.free_spec hi hf j oj hoj e hun fun e2 he2 hb2 hon => by
        have h3 := hall e2 he2 hb2
        rw [hon, getD_both (mem_ready.1 hr).1] at h3
        exact absurd h3 (by decide)
      have hji : i ∈ Region.ready md ops (listed.setIfInBounds j true) := ready_mono hr (Ne.symm e)
      refine wpOp_mono (fun a' w' k => ?_) (wpOp_putIf hoj hap (fun cs b => hsel i oi cs b hi) (fun cs b => hsel j oj cs b hoj) hQ hy (H.2 j (ready_mono hj e)))
      obtain ⟨hy', hS', hW⟩ := k
      have hjz : j ∉ Z := nz hr hj
      refine ⟨fun _ => hS' hjz, ih _ a' w' (free_set hf) hji hy' (hS' hjz) ?_⟩
      rw [Array.setIfInBounds_comm _ _ (Ne.symm e)] at hW
      exact hW
/-- the same, as a walk asks it -/
theorem ButZ.take {i : Nat} {oi : Oper} {v : Value} {f : Nat} {listed : Array Bool} {a : Act} {w : World} (hi : ops[i]? = some oi)
    (hs : Region.noSelect ops = true) (hf : Region.free md ops listed i = true) (hr : (Region.ready md ops listed).contains i = true) (hz : Z.all (fun z => Region.waitsFor md ops z i) = true)
    (hQ : ∀ c a w, Q (.panic c) (a.put oi.dst v) w → Q (.panic c) a w) (hy : YieldsIf P ops S oi v a) (hS : S w)
    (h : ButZ P md ops Q S Z f (listed.setIfInBounds i true) (a.put oi.dst v) w) : ButZ P md ops Q S Z (f + 1) listed a w :=
  ButZ.front hi (Region.noSelect_spec hs) hQ hz f listed a w hf (by simpa using hr) hy hS h
theorem ButZ.one {i : Nat} {o : Oper} {f : Nat} {listed : Array Bool} {a : Act} {w : World} (hr : Region.ready md ops listed = [i]) (ho : ops[i]? = some o)
    (h : ∀ K' : Act → World → Prop, Shut (∀ a w, (i ∉ Z → S w) → ButZ P md ops Q S Z f (listed.setIfInBounds i true) a w → K' a w) → if Region.wanted o (yielded ops a.tmps) = true then Oper.wp P o a w K' Q else K' (a.put o.dst undef) w) :
    ButZ P md ops Q S Z (f + 1) listed a w := by
  refine ⟨fun h0 => (by rw [hr] at h0; cases h0), fun j hj => ?_⟩
  rw [hr, List.mem_singleton] at hj
  subst hj
  exact wpOp_step ho (fun K' hK => h K' (fun a w hS hW => hK a w ⟨hS, hW⟩))
theorem ButZ.two {i j : Nat} {o u : Oper} {f : Nat} {listed : Array Bool} {a : Act} {w : World} (hr : Region.ready md ops listed = [i, j]) (ho : ops[i]? = some o) (hu : ops[j]? = some u)
    (h : ∀ K' : Act → World → Prop, Shut (∀ a w, (i ∉ Z → S w) → ButZ P md ops Q S Z f (listed.setIfInBounds i true) a w → K' a w) → if Region.wanted o (yielded ops a.tmps) = true then Oper.wp P o a w K' Q else K' (a.put o.dst undef) w)
    (h2 : ∀ K' : Act → World → Prop, Shut (∀ a w, (j ∉ Z → S w) → ButZ P md ops Q S Z f (listed.setIfInBounds j true) a w → K' a w) → if Region.wanted u (yielded ops a.tmps) = true then Oper.wp P u a w K' Q else K' (a.put u.dst undef) w) :
    ButZ P md ops Q S Z (f + 1) listed a w := by
  refine ⟨fun h0 => (by rw [hr] at h0; cases h0), fun k hk => ?_⟩
  rw [hr] at hk
  rcases List.mem_cons.1 hk with rfl | hk
  · exact wpOp_step ho (fun K' hK => h K' (fun a w hS hW => hK a w ⟨hS, hW⟩))
  · rw [List.mem_singleton] at hk
    subst hk
    exact wpOp_step hu (fun K' hK => h2 K' (fun a w hS hW => hK a w ⟨hS, hW⟩))
theorem ButZ.done {listed : Array Bool} {a : Act} {w : World} (hr : Region.ready md ops listed = []) (h : Q .normal a w) : ∀ f, ButZ P md ops Q S Z f listed a w
  | 0 => ⟨hr, h⟩
  | _ + 1 => ⟨fun _ => h, by rw [hr]; simp⟩
theorem ButZ.region {id : Nat} {a : Act} {w : World} (S : World → Prop) (Z : List Nat) (hm : P.follows .mixedOrders = true)
    (h : ButZ P .any ops Q S Z ops.size (Array.replicate ops.size false) a w.drew) : (Code.region id ops true).wp P Q a w :=
  wp_region_any hm (ButZ.plain _ _ _ _ h)
end

open Go.RowKit

theorem RecV.parts {w : World} {sc : Sc} {rv en : Value} {d : RecD} (h : RecV w (recVal sc rv en) d) : sc = d.sc ∧ SV lRow w rv d.rows ∧ SV lEnt w en d.ents := by
  obtain ⟨rv', en', e, h1, h2⟩ := h
  unfold recVal at e
  simp only [Value.agg.injEq, Array.mk.injEq, List.cons.injEq, Value.int.injEq, Value.string.injEq, Value.bool.injEq] at e
  obtain ⟨⟨-, e0⟩, e1, e2, e3, ⟨-, e4⟩, rfl, rfl, e7, e8, ⟨-, e9⟩, ⟨-, e10⟩, ⟨-, e11⟩, e12, ⟨-, e13⟩, ⟨-, e14⟩, -⟩ := e
  refine ⟨?_, h1, h2⟩
  cases sc; cases hd : d.sc; simp_all
set_option maxRecDepth 100000 in
set_option maxHeartbeats 4000000 in
theorem iOwn_any (w : World) (d : RecD) (ra : Option Addr) (rn rc : Nat) (ea : Option Addr) (en ec : Nat) (hv : RecV w (recVal d.sc (.slice ra rn rc) (.slice ea en ec)) d) (h1 : d.rows.length ≤ 1000) (h2 : d.ents.length ≤ 1000) :
    Calls Try.prog 71 #[recVal d.sc (.slice ra rn rc) (.slice ea en ec)] w fun ev w' => ∃ rv' en', ev = .returned (recVal d.sc rv' en') ∧ OwnS lRow w.heap.size w' rv' d.rows ∧ OwnS lEnt w.heap.size w' en' d.ents ∧ Below w.heap.size w w' := by
  obtain ⟨-, sr, se⟩ := hv.parts
  obtain ⟨W0, hW0⟩ : ∃ W, W = (w.alloc (recObj d.sc (.slice ra rn rc) (.slice ea en ec))).alloc (recObj Sc.zero (.slice none 0 0) (.slice none 0 0)) := ⟨_, rfl⟩
  have b0 : Below w.heap.size w W0 := by rw [hW0]; exact (alloc_below0 _ _).trans ((alloc_below0 _ _).mono (alloc_below0 w _).size)
  have hr0 : W0.heap[w.heap.size]? = some (recObj d.sc (.slice ra rn rc) (.slice ea en ec)) := by rw [hW0]; exact blk_step (blk_new w _) (alloc_below0 _ _)
  have hz0 : W0.heap[w.heap.size + 1]? = some (recObj Sc.zero (.slice none 0 0) (.slice none 0 0)) := by rw [hW0, show w.heap.size + 1 = (w.alloc (recObj d.sc (.slice ra rn rc) (.slice ea en ec))).heap.size by simp]; exact blk_new _ _
  have B0 := Lib.hid b0
  have R0 := Lib.hid hr0
  have Z0 := Lib.hid hz0
  have N0 := Lib.hid (show W0.heap.size = w.heap.size + 2 by rw [hW0]; simp)
  have SR := Lib.hid (sr.below b0)
  have SE := Lib.hid (se.below b0)
  have HL := Lib.hid (show d.rows.length ≤ 100000 ∧ d.ents.length ≤ 100000 from ⟨by omega, by omega⟩)
  clear hv h1 h2 sr se b0 hr0 hz0
  unfold recVal
  unfold recObj Sc.zero at hW0
  dsimp only at hW0
  go_enter Try.func71, Try.ntmps71
  go_wp2_with fail
  rw [← hW0]
  clear hW0
  have BD := Lib.hid (B0.out.drew)
  have RD := Lib.hid (show W0.drew.heap[w.heap.size]? = some (recObj d.sc (.slice ra rn rc) (.slice ea en ec)) from R0.out)
  have ZD := Lib.hid (show W0.drew.heap[w.heap.size + 1]? = some (recObj Sc.zero (.slice none 0 0) (.slice none 0 0)) from Z0.out)
  have ND := Lib.hid (show W0.drew.heap.size = w.heap.size + 2 from N0.out)
  have SRD := Lib.hid (SR.out.below (Below.refl _ _).drew)
  have SED := Lib.hid (SE.out.below (Below.refl _ _).drew)
  refine ButZ.region (fun w' => w'.heap[w.heap.size]? = some (recObj d.sc (.slice ra rn rc) (.slice ea en ec))) [7, 8, 9] (by kernel_rfl) ?_
  generalize W0.drew = wd at *
  refine ButZ.take (i := 0) (oi := ⟨some 3, _, _, _, _, _⟩) (v := ?va0) rfl (by kernel_rfl) (by kernel_rfl) (by kernel_rfl) (by kernel_rfl) (fun _ _ _ h => h) (Or.inl ⟨by rfl, ?hya0⟩) RD.out ?resta0
  case hya0 => (intro w hSw; have q0 := (blk_cell hSw 5 : _ = some (Value.slice ra rn rc)); have q1 := (blk_cell hSw 6 : _ = some (Value.slice ea en ec)); go_simp; try (with_reducible rfl))
  simp only [Act.put, List.setIfInBounds_toArray, List.set_cons_zero, List.set_cons_succ]
  refine ButZ.take (i := 1) (oi := ⟨some 4, _, _, _, _, _⟩) (v := ?va1) rfl (by kernel_rfl) (by kernel_rfl) (by kernel_rfl) (by kernel_rfl) (fun _ _ _ h => h) (Or.inl ⟨by rfl, ?hya1⟩) RD.out ?resta1
  case hya1 => (intro w hSw; have q0 := (blk_cell hSw 5 : _ = some (Value.slice ra rn rc)); have q1 := (blk_cell hSw 6 : _ = some (Value.slice ea en ec)); go_simp; try (with_reducible rfl))
  simp only [Act.put, List.setIfInBounds_toArray, List.set_cons_zero, List.set_cons_succ]
  refine ButZ.take (i := 3) (oi := ⟨some 6, _, _, _, _, _⟩) (v := ?va3) rfl (by kernel_rfl) (by kernel_rfl) (by kernel_rfl) (by kernel_rfl) (fun _ _ _ h => h) (Or.inl ⟨by rfl, ?hya3⟩) RD.out ?resta3
  case hya3 => (intro w hSw; have q0 := (blk_cell hSw 5 : _ = some (Value.slice ra rn rc)); have q1 := (blk_cell hSw 6 : _ = some (Value.slice ea en ec)); go_simp; try (with_reducible rfl))
  simp only [Act.put, List.setIfInBounds_toArray, List.set_cons_zero, List.set_cons_succ]
  refine ButZ.take (i := 4) (oi := ⟨some 7, _, _, _, _, _⟩) (v := ?va4) rfl (by kernel_rfl) (by kernel_rfl) (by kernel_rfl) (by kernel_rfl) (fun _ _ _ h => h) (Or.inl ⟨by rfl, ?hya4⟩) RD.out ?resta4
  case hya4 => (intro w hSw; have q0 := (blk_cell hSw 5 : _ = some (Value.slice ra rn rc)); have q1 := (blk_cell hSw 6 : _ = some (Value.slice ea en ec)); go_simp; try (with_reducible rfl))
  simp only [Act.put, List.setIfInBounds_toArray, List.set_cons_zero, List.set_cons_succ]
  refine ButZ.one (i := 2) (o := ⟨some 5, _, _, _, _, _⟩) (by kernel_rfl) rfl (fun K hK => ?_)
  rw [if_pos (by rfl)]
  go_simp
  refine (clone_rows _ _ _ SRD.out HL.out.1).mono ?_
  rintro e2 w2 ⟨v2, rfl, ho, hs⟩
  obtain ⟨a2, c2, rfl, -, -⟩ := ho.sv.lenform
  have O2 := Lib.hid (ho.mono (b' := w.heap.size) (by have := ND.out; omega))
  have B2 := Lib.hid (BD.out.trans (hs.mono (by have := ND.out; omega)))
  have R2 := Lib.hid (blk_step RD.out hs)
  have Z2 := Lib.hid (blk_step ZD.out hs)
  have S2 := Lib.hid (SED.out.below hs)
  have N2 := Lib.hid (show w.heap.size + 2 ≤ w2.heap.size by have := hs.size; have := ND.out; omega)
  have Q2 := Lib.hid (show ∀ k, (Value.slice a2 d.rows.length c2).ownBlock = some k → w.heap.size + 2 ≤ k from fun k hk => by have := (ho.bounds k hk).1; have := ND.out; omega)
  clear ho hs
  refine hK.out _ _ (fun _ => R2.out) ?_
  clear hK K
  try simp only [Act.put, List.setIfInBounds_toArray, List.set_cons_zero, List.set_cons_succ]
  refine ButZ.take (i := 6) (oi := ⟨some 9, _, _, _, _, _⟩) (v := ?va6) rfl (by kernel_rfl) (by kernel_rfl) (by kernel_rfl) (by kernel_rfl) (fun _ _ _ h => h) (Or.inl ⟨by rfl, ?hya6⟩) R2.out ?resta6
  case hya6 => (intro w hSw; have q0 := (blk_cell hSw 5 : _ = some (Value.slice ra rn rc)); have q1 := (blk_cell hSw 6 : _ = some (Value.slice ea en ec)); go_simp; try (with_reducible rfl))
  simp only [Act.put, List.setIfInBounds_toArray, List.set_cons_zero, List.set_cons_succ]
  refine ButZ.one (i := 5) (o := ⟨some 8, _, _, _, _, _⟩) (by kernel_rfl) rfl (fun K hK => ?_)
  rw [if_pos (by rfl)]
  go_simp
  refine (clone_ents _ _ _ S2.out HL.out.2).mono ?_
  rintro e3 w3 ⟨v3, rfl, ho, hs⟩
  obtain ⟨a3, c3, rfl, -, -⟩ := ho.sv.lenform
  have P3 := Lib.hid (ho.mono (b' := w.heap.size) (by have := N2.out; omega))
  have O3 := Lib.hid (O2.out.below hs)
  have B3 := Lib.hid (B2.out.trans (hs.mono (by have := N2.out; omega)))
  have R3 := Lib.hid (blk_step R2.out hs)
  have Z3 := Lib.hid (blk_step Z2.out hs)
  have Q3 := Lib.hid (show ∀ k, (Value.slice a3 d.ents.length c3).ownBlock = some k → w.heap.size + 2 ≤ k from fun k hk => by have := (ho.bounds k hk).1; have := N2.out; omega)
  clear ho hs
  refine hK.out _ _ (fun _ => R3.out) ?_
  clear hK K
  try simp only [Act.put, List.setIfInBounds_toArray, List.set_cons_zero, List.set_cons_succ]
  refine ButZ.one (i := 7) (o := ⟨none, _, _, _, _, _⟩) (by kernel_rfl) rfl (fun K hK => ?_)
  rw [if_pos (by rfl)]
  have x5 := (blk_cell R3.out 5 : _ = some (Value.slice ra rn rc))
  have z5 := blk_free R3.out 5
  go_simp
  have R4 := Lib.hid (show (w3.setCell ⟨w.heap.size, 5, none⟩ (.slice a2 d.rows.length c2)).heap[w.heap.size]? = some (recObj d.sc (.slice a2 d.rows.length c2) (.slice ea en ec)) from blk_set R3.out 5 _)
  refine hK.out _ _ (fun h => absurd (by decide) h) ?_
  clear hK K
  try simp only [Act.put]
  have O4 := Lib.hid (O3.out.setOther (b := w.heap.size) (o := 5) (x := .slice a2 d.rows.length c2) (fun k hk => by have := Q2.out k hk; omega))
  have P4 := Lib.hid (P3.out.setOther (b := w.heap.size) (o := 5) (x := .slice a2 d.rows.length c2) (fun k hk => by have := Q3.out k hk; omega))
  have Z4 := Lib.hid (blk_off Z3.out (b := w.heap.size) (by omega) 5 (.slice a2 d.rows.length c2))
  have B4 := Lib.hid (below_set B3.out (Nat.le_refl w.heap.size) 5 (.slice a2 d.rows.length c2))
  clear x5 z5
  generalize hW4 : w3.setCell ⟨w.heap.size, 5, none⟩ (.slice a2 d.rows.length c2) = w4 at *
  clear hW4
  refine ButZ.one (i := 8) (o := ⟨some 10, _, _, _, _, _⟩) (by kernel_rfl) rfl (fun K hK => ?_)
  rw [if_pos (by rfl)]
  go_simp
  refine hK.out _ _ (fun h => absurd (by decide) h) ?_
  clear hK K
  try simp only [Act.put, List.setIfInBounds_toArray, List.set_cons_zero, List.set_cons_succ]
  refine ButZ.one (i := 9) (o := ⟨none, _, _, _, _, _⟩) (by kernel_rfl) rfl (fun K hK => ?_)
  rw [if_pos (by rfl)]
  have x6 := (blk_cell R4.out 6 : _ = some (Value.slice ea en ec))
  have z6 := blk_free R4.out 6
  go_simp
  have R5 := Lib.hid (show (w4.setCell ⟨w.heap.size, 6, none⟩ (.slice a3 d.ents.length c3)).heap[w.heap.size]? = some (recObj d.sc (.slice a2 d.rows.length c2) (.slice a3 d.ents.length c3)) from blk_set R4.out 6 _)
  refine hK.out _ _ (fun h => absurd (by decide) h) ?_
  clear hK K
  try simp only [Act.put]
  have O5 := Lib.hid (O4.out.setOther (b := w.heap.size) (o := 6) (x := .slice a3 d.ents.length c3) (fun k hk => by have := Q2.out k hk; omega))
  have P5 := Lib.hid (P4.out.setOther (b := w.heap.size) (o := 6) (x := .slice a3 d.ents.length c3) (fun k hk => by have := Q3.out k hk; omega))
  have Z5 := Lib.hid (blk_off Z4.out (b := w.heap.size) (by omega) 6 (.slice a3 d.ents.length c3))
  have B5 := Lib.hid (below_set B4.out (Nat.le_refl w.heap.size) 6 (.slice a3 d.ents.length c3))
  clear x6 z6
  generalize hW5 : w4.setCell ⟨w.heap.size, 6, none⟩ (.slice a3 d.ents.length c3) = w5 at *
  clear hW5
  refine ButZ.done (by kernel_rfl) ?_ _
  have RG := Lib.hid (rec_range R5.out)
  have TH := Lib.hid (blk_there Z5.out 15 (Nat.le_refl _))
  have LD := Lib.hid (list_laid (recCells d.sc (.slice a2 d.rows.length c2) (.slice a3 d.ents.length c3)) Z5.out rfl)
  have OT := Lib.hid (Kept.setCells (recCells d.sc (.slice a2 d.rows.length c2) (.slice a3 d.ents.length c3)) 0 w5 (Kept.refl (fun k => k = w.heap.size + 1) w5))
  have O6 := Lib.hid (O5.out.kept OT.out (fun a n c hv hs => by have := Q2.out a.block (by rw [hv]; rfl); omega))
  have P6 := Lib.hid (P5.out.kept OT.out (fun a n c hv hs => by have := Q3.out a.block (by rw [hv]; rfl); omega))
  have B6 := Lib.hid (B5.out.trans (OT.out.below (n := w.heap.size) (fun k hk => by omega) B5.out.size))
  go_wp2_with (first | (refine wpList_load_mid rfl 44 (.tmp 1) rfl w.heap.size 0 rfl (recCells d.sc (.slice a2 d.rows.length c2) (.slice a3 d.ents.length c3)) _ RG.out Try.underlying44 rfl recInfoS ?_) | (refine wpList_store_mid rfl 44 (.tmp 2) (.tmp 11) rfl (w.heap.size + 1) 0 (recCells d.sc (.slice a2 d.rows.length c2) (.slice a3 d.ents.length c3)).toArray rfl rfl TH.out (by kernel_rfl) (rec_one ..) ?_))
  exact bodyPost_ret (v := .agg (recCells d.sc (.slice a2 d.rows.length c2) (.slice a3 d.ents.length c3)).toArray) (results_cell1 rfl _ _ (w.heap.size + 1) (recCells d.sc (.slice a2 d.rows.length c2) (.slice a3 d.ents.length c3)) _ rfl (blk_rng LD.out) Try.underlying44 rfl recInfoS) rfl ⟨_, _, rfl, O6.out, P6.out, B6.out⟩
end Go.Proofs.Ytaiaaljahnackaa
