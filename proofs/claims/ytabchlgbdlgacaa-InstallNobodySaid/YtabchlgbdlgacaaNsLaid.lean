/- What the frames of layer 12's laws share: the program's own settings, its layout; limits, refs, records and steps that came in. -/
import Derived.Test.YtabchlgbdlgacaaRows
import Derived.Test.YtabchlgbdlgacaaNsKeep
import Derived.Deep.SlicePairs
import Derived.SizedLaws
namespace Go.Proofs.Ytabchlgbdlgacaa
open Go.ChangeShapes Go.WideShapes Go.RowKit
theorem Try.own : ownKnob Try.prog.godebug = none := by kernel_rfl
theorem Try.laidOut : laidOutB Try.prog = true := by kernel_rfl

section
variable {H : Type} {enc : TypeId × Value → H} {w : World} {base : Nat} {spare : Nat → Bool} {held : Bool}
theorem sv_pairs {α : Type} (E : Lay α) (hsz : E.sz = 2) {a : Addr} {len cap : Nat} (f : Nat → α) (V0 V1 : Nat → Value) (h : ∀ i, i < len → w.cell? (a.add (i * 2)) = some (V0 i) ∧ w.cell? (a.add (i * 2 + 1)) = some (V1 i) ∧ E.enc (f i) = [V0 i, V1 i])
    (hl : len ≤ cap) (hm : cap ≤ maxLen) : SV E w (.slice (some a) len cap) ((List.range len).map f) := by
  obtain ⟨b, off, spot⟩ := a
  have hlen : ((List.range len).map f).length = len := by simp
  refine ⟨some ⟨b, off, spot⟩, cap, by rw [hlen], by rw [hlen]; exact hl, hm, fun h => (by cases h), b, off, fun hne x hx => ?_, fun j u hu => ?_⟩
  · rw [hlen] at hne
    have hs := World.cell?_spot (h 0 (by omega)).1
    simp only [Addr.add, Nat.zero_mul, if_true] at hs
    subst hs
    exact (Option.some.inj hx).symm
  · have hj : j < len * 2 := by
      have := (List.getElem?_eq_some_iff.1 hu).1
      rw [E.flat_len, hlen, hsz] at this; exact this
    have hi : j / 2 < len := by omega
    have hx : ((List.range len).map f)[j / 2]? = some (f (j / 2)) := by rw [List.getElem?_map, List.getElem?_range hi]; rfl
    have e := E.flat_at _ (j / 2) (j % 2) _ hx (by rw [hsz]; exact Nat.mod_lt _ (by decide))
    rw [hsz, show j / 2 * 2 + j % 2 = j from Nat.div_add_mod' j 2, hu] at e
    obtain ⟨h0, h1, h2⟩ := h (j / 2) hi
    have hs := World.cell?_spot (h 0 (by omega)).1
    simp only [Addr.add, Nat.zero_mul, if_true] at hs
    subst hs
    rw [Go.WideShapes.add_plain] at h0 h1
    rw [h2] at e
    rcases Nat.mod_two_eq_zero_or_one j with hm | hm
    · rw [hm] at e
      obtain rfl : u = V0 (j / 2) := by simpa using e
      rw [show off + j = off + j / 2 * 2 by omega]; exact h0
    · rw [hm] at e
      obtain rfl : u = V1 (j / 2) := by simpa using e
      rw [show off + j = off + (j / 2 * 2 + 1) by omega]; exact h1
def strOf : Value → ByteArray | .string s => s | _ => ByteArray.empty
def intOfV : Value → Int | .int _ a => a | _ => 0
/-- all that is in a datum takes no more than the form's own reach -/
def Fits (t : TypeId) (d : DataW H) : Prop := ∀ k ∈ d.weights Try.prog t, k ≤ reachBytes
theorem wAll_mem {e : TypeId} {d : DataW H} {k : Nat} (hk : k ∈ d.weights Try.prog e) : ∀ {l : List (DataW H)}, d ∈ l → k ∈ DataW.weightsAll Try.prog e l
  | [], h => by cases h
  | y :: l, h => by
    simp only [DataW.weightsAll, List.mem_append]
    rcases List.mem_cons.1 h with rfl | h
    · exact .inl hk
    · exact .inr (wAll_mem hk h)
theorem Fits.elem {t e : TypeId} {elems spare' : List (DataW H)} (h : Fits t (.slice elems spare')) (hu : Try.prog.underlying t = some (.slice e)) {d : DataW H} (hd : d ∈ elems) : Fits e d := fun k hk => by
  refine h k ?_
  simp only [DataW.weights, hu]
  exact List.mem_cons_of_mem _ (List.mem_append_left _ (wAll_mem hk hd))
theorem Fits.part {t : TypeId} {fs : Array Field} {parts : List (DataW H)} (h : Fits t (.agg parts)) (hu : Try.prog.underlying t = some (.struct fs)) {j tj : Nat} {d : DataW H} (ht : (fs[j]?).map (·.type) = some tj) (hd : parts[j]? = some d) : Fits tj d := fun k hk => by
  refine h k ?_
  simp only [DataW.weights, hu]
  exact DataW.weights_mem_each (j := j) (by rw [List.getElem?_map, Array.getElem?_toList]; exact ht) hd k hk
theorem Fits.str {t : TypeId} {s : ByteArray} (h : Fits t (.lit (.string s.data.toList) : DataW H)) : s.size ≤ reachBytes := by
  have := h s.data.toList.length (by simp [DataW.weights])
  simpa using this
theorem sized_arg {ts : List TypeId} {ds : List (DataW H)} (h : (DataW.weightsEach Try.prog ts ds).all (· ≤ reachBytes) = true) {j : Nat} {t : TypeId} {d : DataW H} (ht : ts[j]? = some t) (hd : ds[j]? = some d) : Fits t d := fun k hk => by
  have := List.all_eq_true.1 h k (DataW.weights_mem_each ht hd k hk)
  simpa using this
def SmallR (rows : List Rw) : Prop := ∀ r ∈ rows, r.1.size ≤ reachBytes ∧ r.2.size ≤ reachBytes
theorem rows_of {fuel : Nat} {cs : List Value} {x : DataW H × List MemPlace} (h : DataW.trod enc Try.prog w base spare held fuel 39 cs = some x) :
    ∃ (a : Option Addr) (c : Nat) (rows : List Rw), cs = [.slice a rows.length c] ∧ SV lRow w (.slice a rows.length c) rows ∧ (Fits 39 x.1 → SmallR rows) := by
  rcases Go.Deep.open_slice_pairs Try.underlying39 Try.underlying101 (by kernel_rfl) rfl rfl (by kernel_rfl) (by kernel_rfl) h with ⟨rfl, -⟩ | ⟨a, len, cap, m, n, V0, V1, D0, D1, P0, P1, rfl, -, hl, hm, hmm, rfl, hx⟩
  · exact ⟨none, 0, [], rfl, SV.nil _ _, fun _ r hr => by cases hr⟩
  · have hle : len ≤ m := by rw [hmm]; split <;> omega
    have sv := sv_pairs (w := w) lRow rfl (a := a) (len := len) (cap := cap) (fun i => (strOf (V0 i), strOf (V1 i))) V0 V1 (fun i hi => by
      obtain ⟨h1, h2, h3, h4⟩ := hx i (by omega)
      obtain ⟨s, e1, -, -⟩ := DataW.trod_string Try.underlying9 h3
      obtain ⟨t, e2, -, -⟩ := DataW.trod_string Try.underlying9 h4
      have e1' : V0 i = .string s := by simpa using e1
      have e2' : V1 i = .string t := by simpa using e2
      exact ⟨h1, h2, by rw [e1', e2']; rfl⟩) hl hm
    have hlen : ((List.range len).map fun i => ((strOf (V0 i), strOf (V1 i)) : Rw)).length = len := by simp
    refine ⟨some a, cap, _, by rw [hlen], by rw [hlen]; exact sv, fun hF r hr => ?_⟩
    obtain ⟨i, hi, rfl⟩ := List.mem_map.1 hr
    have hil : i < len := List.mem_range.1 hi
    obtain ⟨-, -, h3, h4⟩ := hx i (by omega)
    obtain ⟨s, e1, d1, -⟩ := DataW.trod_string Try.underlying9 h3
    obtain ⟨t, e2, d2, -⟩ := DataW.trod_string Try.underlying9 h4
    have e1' : V0 i = .string s := by simpa using e1
    have e2' : V1 i = .string t := by simpa using e2
    have hA := hF.elem Try.underlying39 (List.mem_map.2 ⟨i, hi, rfl⟩)
    have p0 := hA.part Try.underlying101 (j := 0) rfl rfl
    have p1 := hA.part Try.underlying101 (j := 1) rfl rfl
    rw [(Prod.mk.inj d1).1] at p0
    rw [(Prod.mk.inj d2).1] at p1
    rw [e1', e2']
    exact ⟨p0.str, p1.str⟩
theorem ents_of {fuel : Nat} {cs : List Value} {x : DataW H × List MemPlace} (h : DataW.trod enc Try.prog w base spare held fuel 40 cs = some x) :
    ∃ (a : Option Addr) (c : Nat) (ents : List En), cs = [.slice a ents.length c] ∧ SV lEnt w (.slice a ents.length c) ents := by
  rcases Go.Deep.open_slice_pairs Try.underlying40 Try.underlying103 (by kernel_rfl) rfl rfl (by kernel_rfl) (by kernel_rfl) h with ⟨rfl, -⟩ | ⟨a, len, cap, m, n, V0, V1, D0, D1, P0, P1, rfl, -, hl, hm, hmm, -, hx⟩
  · exact ⟨none, 0, [], rfl, SV.nil _ _⟩
  · have hle : len ≤ m := by rw [hmm]; split <;> omega
    have sv := sv_pairs (w := w) lEnt rfl (a := a) (len := len) (cap := cap) (fun i => (strOf (V0 i), intOfV (V1 i))) V0 V1 (fun i hi => by
      obtain ⟨h1, h2, h3, h4⟩ := hx i (by omega)
      obtain ⟨s, e1, -, -⟩ := DataW.trod_string Try.underlying9 h3
      obtain ⟨t, e2, -, -⟩ := DataW.trod_int Try.underlying3 h4
      have e1' : V0 i = .string s := by simpa using e1
      have e2' : V1 i = .int .i64 t := by simpa using e2
      exact ⟨h1, h2, by rw [e1', e2']; rfl⟩) hl hm
    have hlen : ((List.range len).map fun i => ((strOf (V0 i), intOfV (V1 i)) : En)).length = len := by simp
    exact ⟨some a, cap, _, by rw [hlen], by rw [hlen]; exact sv⟩
theorem list3 {α : Type} {l : List α} (h : l.length = 3) : ∃ a b c, l = [a, b, c] := by
  match l, h with
  | [a, b, c], _ => exact ⟨a, b, c, rfl⟩
theorem list15 {α : Type} {l : List α} (h : l.length = 15) : ∃ a0 a1 a2 a3 a4 a5 a6 a7 a8 a9 a10 a11 a12 a13 a14, l = [a0, a1, a2, a3, a4, a5, a6, a7, a8, a9, a10, a11, a12, a13, a14] := by
  match l, h with
  | [a0, a1, a2, a3, a4, a5, a6, a7, a8, a9, a10, a11, a12, a13, a14], _ => exact ⟨a0, a1, a2, a3, a4, a5, a6, a7, a8, a9, a10, a11, a12, a13, a14, rfl⟩
theorem get_some {α : Type} {xs : List α} {n : Nat} (hl : xs.length = n) {i : Nat} (h : i < n) : ∃ y, xs[i]? = some y := ⟨_, List.getElem?_eq_getElem (by rw [hl]; exact h)⟩
theorem fld {fs : Array Field} {n : Nat} {cs : List Value} {xs : List (DataW H × List MemPlace)} (hf : ∀ (i : Nat) (f : Field), fs[i]? = some f → DataW.trod enc Try.prog w base spare held n f.type ((cs.drop f.offset).take (Try.prog.cellsOf f.type)) = xs[i]?)
    (i t o c : Nat) (ht : (fs[i]?).map (fun f => (f.type, f.offset)) = some (t, o)) (hc : Try.prog.cellsOf t = c) (hi : i < xs.length) : ∃ y, DataW.trod enc Try.prog w base spare held n t ((cs.drop o).take c) = some y ∧ xs[i]? = some y := by
  obtain ⟨f, h1, h2⟩ := Option.map_eq_some_iff.1 ht
  simp only [Prod.mk.injEq] at h2
  obtain ⟨rfl, rfl⟩ := h2
  subst hc
  exact ⟨_, (hf i f h1).trans (List.getElem?_eq_getElem hi), List.getElem?_eq_getElem hi⟩
set_option maxRecDepth 100000 in
theorem rec_of {fuel : Nat} {cs : List Value} {x : DataW H × List MemPlace} (h : DataW.trod enc Try.prog w base spare held fuel 44 cs = some x) :
    ∃ (s : Sc) (ra : Option Addr) (rc : Nat) (rows : List Rw) (ea : Option Addr) (ec : Nat) (ents : List En), cs = recCells s (.slice ra rows.length rc) (.slice ea ents.length ec) ∧ SV lRow w (.slice ra rows.length rc) rows ∧ SV lEnt w (.slice ea ents.length ec) ents ∧ (Fits 44 x.1 → SmallR rows) := by
  obtain ⟨xs, n, -, rfl, hl, hlen, hf⟩ := DataW.trod_struct Try.underlying44 h
  have c36 : Try.prog.cellsOf 44 = 15 := by kernel_rfl
  have cI : Try.prog.cellsOf 3 = 1 := by kernel_rfl
  have cS : Try.prog.cellsOf 9 = 1 := by kernel_rfl
  have cB : Try.prog.cellsOf 4 = 1 := by kernel_rfl
  have cR : Try.prog.cellsOf 39 = 1 := by kernel_rfl
  have cE : Try.prog.cellsOf 40 = 1 := by kernel_rfl
  have cH : Try.prog.cellsOf 42 = 3 := by kernel_rfl
  have cX : Try.prog.cellsOf 34 = 2 := by kernel_rfl
  rw [c36] at hl
  obtain ⟨a0, a1, a2, a3, a4, a5, a6, a7, a8, a9, a10, a11, a12, a13, a14, rfl⟩ := list15 hl
  have hn : xs.length = 12 := hlen
  obtain ⟨y0, f0, -⟩ := fld hf 0 3 0 1 rfl cI (by omega)
  obtain ⟨y1, f1, -⟩ := fld hf 1 9 1 1 rfl cS (by omega)
  obtain ⟨y2, f2, -⟩ := fld hf 2 9 2 1 rfl cS (by omega)
  obtain ⟨y3, f3, -⟩ := fld hf 3 4 3 1 rfl cB (by omega)
  obtain ⟨y4, f4, -⟩ := fld hf 4 3 4 1 rfl cI (by omega)
  obtain ⟨y5, f5, x5⟩ := fld hf 5 39 5 1 rfl cR (by omega)
  obtain ⟨y6, f6, -⟩ := fld hf 6 40 6 1 rfl cE (by omega)
  obtain ⟨y7, f7, -⟩ := fld hf 7 9 7 1 rfl cS (by omega)
  obtain ⟨y8, f8, -⟩ := fld hf 8 9 8 1 rfl cS (by omega)
  obtain ⟨y9, f9, -⟩ := fld hf 9 3 9 1 rfl cI (by omega)
  obtain ⟨y10, f10, -⟩ := fld hf 10 42 10 3 rfl cH (by omega)
  obtain ⟨y11, f11, -⟩ := fld hf 11 34 13 2 rfl cX (by omega)
  simp only [List.drop_zero, List.drop_succ_cons, List.take_succ_cons, List.take_zero] at f0 f1 f2 f3 f4 f5 f6 f7 f8 f9 f10 f11
  obtain ⟨k, g0, -, -⟩ := DataW.trod_int Try.underlying3 f0
  obtain ⟨lo, g1, -, -⟩ := DataW.trod_string Try.underlying9 f1
  obtain ⟨hi, g2, -, -⟩ := DataW.trod_string Try.underlying9 f2
  obtain ⟨un, g3, -⟩ := DataW.trod_bool Try.underlying4 f3
  obtain ⟨ri, g4, -, -⟩ := DataW.trod_int Try.underlying3 f4
  obtain ⟨ra, rc, rows, g5, sr, sw⟩ := rows_of f5
  obtain ⟨ea, ec, ents, g6, se⟩ := ents_of f6
  obtain ⟨ky, g7, -, -⟩ := DataW.trod_string Try.underlying9 f7
  obtain ⟨va, g8, -, -⟩ := DataW.trod_string Try.underlying9 f8
  obtain ⟨pg, g9, -, -⟩ := DataW.trod_int Try.underlying3 f9
  obtain ⟨xh, nh, -, -, -, hh, hfh⟩ := DataW.trod_struct Try.underlying42 f10
  obtain ⟨xr, nr, -, -, -, hr, hfr⟩ := DataW.trod_struct Try.underlying34 f11
  have hh3 : xh.length = 3 := hh
  have hr2 : xr.length = 2 := hr
  obtain ⟨u0, h0, -⟩ := fld hfh 0 3 0 1 rfl cI (by omega)
  obtain ⟨u1, h1, -⟩ := fld hfh 1 3 1 1 rfl cI (by omega)
  obtain ⟨u2, h2, -⟩ := fld hfh 2 9 2 1 rfl cS (by omega)
  obtain ⟨v0, h3, -⟩ := fld hfr 0 3 0 1 rfl cI (by omega)
  obtain ⟨v1, h4, -⟩ := fld hfr 1 3 1 1 rfl cI (by omega)
  simp only [List.drop_zero, List.drop_succ_cons, List.take_succ_cons, List.take_zero] at h0 h1 h2 h3 h4
  obtain ⟨hp, g10, -, -⟩ := DataW.trod_int Try.underlying3 h0
  obtain ⟨hl', g11, -, -⟩ := DataW.trod_int Try.underlying3 h1
  obtain ⟨hk, g12, -, -⟩ := DataW.trod_string Try.underlying9 h2
  obtain ⟨ns, g13, -, -⟩ := DataW.trod_int Try.underlying3 h3
  obtain ⟨ng, g14, -, -⟩ := DataW.trod_int Try.underlying3 h4
  simp only [List.cons.injEq, and_true] at g0 g1 g2 g3 g4 g5 g6 g7 g8 g9 g10 g11 g12 g13 g14
  subst g0 g1 g2 g3 g4 g5 g6 g7 g8 g9 g10 g11 g12 g13 g14
  exact ⟨⟨k, lo, hi, un, ri, ky, va, pg, hp, hl', hk, ns, ng⟩, ra, rc, rows, ea, ec, ents, rfl, sr, se, fun hF => sw (hF.part Try.underlying44 (j := 5) rfl (by rw [List.getElem?_map, x5]; rfl))⟩
set_option maxRecDepth 100000 in
theorem rec_in {r : Reach} {b0 : Nat} {v : Value} {d : DataW H} {p : List MemPlace} (hv : Value.okWide Try.prog w r b0 44 v) (h : DataW.Trod enc Try.prog w base spare held 44 v d p) :
    ∃ (s : Sc) (ra : Option Addr) (rc : Nat) (rows : List Rw) (ea : Option Addr) (ec : Nat) (ents : List En), v = recVal s (.slice ra rows.length rc) (.slice ea ents.length ec) ∧ SV lRow w (.slice ra rows.length rc) rows ∧ SV lEnt w (.slice ea ents.length ec) ents ∧ (Fits 44 d → SmallR rows) := by
  obtain ⟨cs, rfl, -⟩ := okWide_struct Try.underlying44 hv
  obtain ⟨fuel, hf⟩ := h
  obtain ⟨s, ra, rc, rows, ea, ec, ents, e, sr, se, sw⟩ := rec_of hf
  refine ⟨s, ra, rc, rows, ea, ec, ents, ?_, sr, se, sw⟩
  have : cs = (recCells s (.slice ra rows.length rc) (.slice ea ents.length ec)).toArray := by rw [← e]; simp [Value.cells]
  rw [this]; rfl
theorem list23 {α : Type} {l : List α} (h : l.length = 23) : ∃ a0 a1 a2 a3 a4 a5 a6 a7 m, l = a0 :: a1 :: a2 :: a3 :: a4 :: a5 :: a6 :: a7 :: m ∧ m.length = 15 := by
  match l, h with
  | a0 :: a1 :: a2 :: a3 :: a4 :: a5 :: a6 :: a7 :: m, h => exact ⟨a0, a1, a2, a3, a4, a5, a6, a7, m, rfl, by simpa using h⟩
theorem list2' {α : Type} {l : List α} (h : l.length = 2) : ∃ a b, l = [a, b] := by
  match l, h with
  | [a, b], _ => exact ⟨a, b, rfl⟩
theorem ref2_of {fuel : Nat} {cs : List Value} {x : DataW H × List MemPlace} (h : DataW.trod enc Try.prog w base spare held fuel 34 cs = some x) : ∃ s g : Int, cs = [.int .i64 s, .int .i64 g] := by
  obtain ⟨xr, nr, -, -, hl, hr, hfr⟩ := DataW.trod_struct Try.underlying34 h
  have cX : Try.prog.cellsOf 34 = 2 := by kernel_rfl
  have cI : Try.prog.cellsOf 3 = 1 := by kernel_rfl
  rw [cX] at hl
  have hr2 : xr.length = 2 := hr
  obtain ⟨a, b, rfl⟩ := list2' hl
  obtain ⟨v0, h3, -⟩ := fld hfr 0 3 0 1 rfl cI (by omega)
  obtain ⟨v1, h4, -⟩ := fld hfr 1 3 1 1 rfl cI (by omega)
  simp only [List.drop_zero, List.drop_succ_cons, List.take_succ_cons, List.take_zero] at h3 h4
  obtain ⟨x, g1, -, -⟩ := DataW.trod_int Try.underlying3 h3
  obtain ⟨y, g2, -, -⟩ := DataW.trod_int Try.underlying3 h4
  simp only [List.cons.injEq, and_true] at g1 g2
  subst g1 g2
  exact ⟨x, y, rfl⟩
set_option maxRecDepth 100000 in
theorem pick_list {α : Type} {Q : Nat → α → Prop} : ∀ len : Nat, (∀ i, i < len → ∃ d, Q i d) → ∃ ds : List α, ds.length = len ∧ ∀ i d, ds[i]? = some d → Q i d
  | 0, _ => ⟨[], rfl, fun i d h => by simp at h⟩
  | len + 1, h => by
    obtain ⟨ds, h1, h2⟩ := pick_list len (fun i hi => h i (by omega))
    obtain ⟨d, hd⟩ := h len (by omega)
    refine ⟨ds ++ [d], by simp [h1], fun i e he => ?_⟩
    by_cases hi : i < len
    · rw [List.getElem?_append_left (by omega)] at he
      exact h2 i e he
    · rw [List.getElem?_append_right (by omega), h1] at he
      have : i - len = 0 := by
        have := (List.getElem?_eq_some_iff.1 he).1
        simp at this; omega
      rw [this] at he
      obtain rfl : d = e := by simpa using he
      rw [show i = len by omega]; exact hd
theorem list6 {α : Type} {l : List α} (h : l.length = 6) : ∃ a0 a1 a2 a3 a4 a5, l = [a0, a1, a2, a3, a4, a5] := by
  match l, h with
  | [a0, a1, a2, a3, a4, a5], _ => exact ⟨a0, a1, a2, a3, a4, a5, rfl⟩
set_option maxRecDepth 100000 in
theorem lim_of {fuel : Nat} {cs : List Value} {x : DataW H × List MemPlace} (h : DataW.trod enc Try.prog w base spare held fuel 23 cs = some x) : ∃ l : Lim, cs = l.cells.toList := by
  obtain ⟨xs, n, -, rfl, hl, hlen, hf⟩ := DataW.trod_struct Try.underlying23 h
  have cL : Try.prog.cellsOf 23 = 6 := by kernel_rfl
  have cI : Try.prog.cellsOf 3 = 1 := by kernel_rfl
  rw [cL] at hl
  obtain ⟨a0, a1, a2, a3, a4, a5, rfl⟩ := list6 hl
  have hn : xs.length = 6 := hlen
  obtain ⟨y0, f0, -⟩ := fld hf 0 3 0 1 rfl cI (by omega)
  obtain ⟨y1, f1, -⟩ := fld hf 1 3 1 1 rfl cI (by omega)
  obtain ⟨y2, f2, -⟩ := fld hf 2 3 2 1 rfl cI (by omega)
  obtain ⟨y3, f3, -⟩ := fld hf 3 3 3 1 rfl cI (by omega)
  obtain ⟨y4, f4, -⟩ := fld hf 4 3 4 1 rfl cI (by omega)
  obtain ⟨y5, f5, -⟩ := fld hf 5 3 5 1 rfl cI (by omega)
  simp only [List.drop_zero, List.drop_succ_cons, List.take_succ_cons, List.take_zero] at f0 f1 f2 f3 f4 f5
  obtain ⟨i0, g0, -, -⟩ := DataW.trod_int Try.underlying3 f0
  obtain ⟨i1, g1, -, -⟩ := DataW.trod_int Try.underlying3 f1
  obtain ⟨i2, g2, -, -⟩ := DataW.trod_int Try.underlying3 f2
  obtain ⟨i3, g3, -, -⟩ := DataW.trod_int Try.underlying3 f3
  obtain ⟨i4, g4, -, -⟩ := DataW.trod_int Try.underlying3 f4
  obtain ⟨i5, g5, -, -⟩ := DataW.trod_int Try.underlying3 f5
  simp only [List.cons.injEq, and_true] at g0 g1 g2 g3 g4 g5
  subst g0 g1 g2 g3 g4 g5
  exact ⟨⟨i0, i1, i2, i3, i4, i5⟩, rfl⟩
set_option maxRecDepth 100000 in
theorem lim_in {r : Reach} {b0 : Nat} {v : Value} {d : DataW H} {p : List MemPlace} (hv : Value.okWide Try.prog w r b0 23 v) (h : DataW.Trod enc Try.prog w base spare held 23 v d p) : ∃ l : Lim, v = limV l := by
  obtain ⟨cs, rfl, -⟩ := okWide_struct Try.underlying23 hv
  obtain ⟨fuel, hf⟩ := h
  obtain ⟨l, e⟩ := lim_of hf
  refine ⟨l, ?_⟩
  have : cs = l.cells.toList.toArray := by rw [← e]; simp [Value.cells]
  rw [this]; rfl
set_option maxRecDepth 100000 in
end
end Go.Proofs.Ytabchlgbdlgacaa
