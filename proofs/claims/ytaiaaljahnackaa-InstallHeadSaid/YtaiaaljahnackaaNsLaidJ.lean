/- Lists of wide structs, jobs and turns that came in, for the laws of layer 12. -/
import Derived.Test.YtaiaaljahnackaaRows
import Derived.Test.YtaiaaljahnackaaNsKeep
import Derived.Deep.SlicePairs
import Derived.SizedLaws
import Derived.Test.YtaiaaljahnackaaNsJob1
import Derived.Test.YtaiaaljahnackaaNsFew
import Derived.Test.YtaiaaljahnackaaNsCrew
namespace Go.Proofs.Ytaiaaljahnackaa
open Go.ChangeShapes Go.WideShapes Go.RowKit
theorem Try.own : ownKnob Try.prog.godebug = none := by kernel_rfl
theorem Try.laidOut : laidOutB Try.prog = true := by kernel_rfl

section
variable {H : Type} {enc : TypeId × Value → H} {w : World} {base : Nat} {spare : Nat → Bool} {held : Bool}
theorem sv_pairs {α : Type} (E : Lay α) (hsz : E.sz = 2) {a : Addr} {len cap : Nat} (f : Nat → α) (V0 V1 : Nat → Value) (h : ∀ i, i < len → w.cell? (a.add (i * 2)) = some (V0 i) ∧ w.cell? (a.add (i * 2 + 1)) = some (V1 i) ∧ E.enc (f i) = [V0 i, V1 i])
    (hl : len ≤ cap) (hm : cap ≤ maxLen) : SV E w (.slice (some a) len cap) ((List.range len).map f) := by
  obtain ⟨b, off, spot⟩ := a
  have hlen : ((List.range len).map f).length = len := by simp
  refine ⟨some ⟨b, off, spot⟩, cap, by rw [hlen], by rw [hlen]; exact hl, hm, fun h => (by cases h), b, off, fun hne x hx => ?_, fun j u hu => ?_⟩
  · rw [hlen] at hne
    have hs := World.cell?_spot (h 0 (by omega)).1
    simp only [Addr.add, Nat.zero_mul, if_true] at hs
    subst hs
    exact (Option.some.inj hx).symm
  · have hj : j < len * 2 := by
      have := (List.getElem?_eq_some_iff.1 hu).1
      rw [E.flat_len, hlen, hsz] at this; exact this
    have hi : j / 2 < len := by omega
    have hx : ((List.range len).map f)[j / 2]? = some (f (j / 2)) := by rw [List.getElem?_map, List.getElem?_range hi]; rfl
    have e := E.flat_at _ (j / 2) (j % 2) _ hx (by rw [hsz]; exact Nat.mod_lt _ (by decide))
    rw [hsz, show j / 2 * 2 + j % 2 = j from Nat.div_add_mod' j 2, hu] at e
    obtain ⟨h0, h1, h2⟩ := h (j / 2) hi
    have hs := World.cell?_spot (h 0 (by omega)).1
    simp only [Addr.add, Nat.zero_mul, if_true] at hs
    subst hs
    rw [Go.WideShapes.add_plain] at h0 h1
    rw [h2] at e
    rcases Nat.mod_two_eq_zero_or_one j with hm | hm
    · rw [hm] at e
      obtain rfl : u = V0 (j / 2) := by simpa using e
      rw [show off + j = off + j / 2 * 2 by omega]; exact h0
    · rw [hm] at e
      obtain rfl : u = V1 (j / 2) := by simpa using e
      rw [show off + j = off + (j / 2 * 2 + 1) by omega]; exact h1
def strOf : Value → ByteArray | .string s => s | _ => ByteArray.empty
def intOfV : Value → Int | .int _ a => a | _ => 0
/-- all that is in a datum takes no more than the form's own reach -/
def Fits (t : TypeId) (d : DataW H) : Prop := ∀ k ∈ d.weights Try.prog t, k ≤ reachBytes
theorem wAll_mem {e : TypeId} {d : DataW H} {k : Nat} (hk : k ∈ d.weights Try.prog e) : ∀ {l : List (DataW H)}, d ∈ l → k ∈ DataW.weightsAll Try.prog e l
  | [], h => by cases h
  | y :: l, h => by
    simp only [DataW.weightsAll, List.mem_append]
    rcases List.mem_cons.1 h with rfl | h
    · exact .inl hk
    · exact .inr (wAll_mem hk h)
theorem Fits.elem {t e : TypeId} {elems spare' : List (DataW H)} (h : Fits t (.slice elems spare')) (hu : Try.prog.underlying t = some (.slice e)) {d : DataW H} (hd : d ∈ elems) : Fits e d := fun k hk => by
  refine h k ?_
  simp only [DataW.weights, hu]
  exact List.mem_cons_of_mem _ (List.mem_append_left _ (wAll_mem hk hd))
theorem Fits.part {t : TypeId} {fs : Array Field} {parts : List (DataW H)} (h : Fits t (.agg parts)) (hu : Try.prog.underlying t = some (.struct fs)) {j tj : Nat} {d : DataW H} (ht : (fs[j]?).map (·.type) = some tj) (hd : parts[j]? = some d) : Fits tj d := fun k hk => by
  refine h k ?_
  simp only [DataW.weights, hu]
  exact DataW.weights_mem_each (j := j) (by rw [List.getElem?_map, Array.getElem?_toList]; exact ht) hd k hk
theorem Fits.str {t : TypeId} {s : ByteArray} (h : Fits t (.lit (.string s.data.toList) : DataW H)) : s.size ≤ reachBytes := by
  have := h s.data.toList.length (by simp [DataW.weights])
  simpa using this
theorem sized_arg {ts : List TypeId} {ds : List (DataW H)} (h : (DataW.weightsEach Try.prog ts ds).all (· ≤ reachBytes) = true) {j : Nat} {t : TypeId} {d : DataW H} (ht : ts[j]? = some t) (hd : ds[j]? = some d) : Fits t d := fun k hk => by
  have := List.all_eq_true.1 h k (DataW.weights_mem_each ht hd k hk)
  simpa using this
def SmallR (rows : List Rw) : Prop := ∀ r ∈ rows, r.1.size ≤ reachBytes ∧ r.2.size ≤ reachBytes
theorem rows_of {fuel : Nat} {cs : List Value} {x : DataW H × List MemPlace} (h : DataW.trod enc Try.prog w base spare held fuel 39 cs = some x) :
    ∃ (a : Option Addr) (c : Nat) (rows : List Rw), cs = [.slice a rows.length c] ∧ SV lRow w (.slice a rows.length c) rows ∧ (Fits 39 x.1 → SmallR rows) := by
  rcases Go.Deep.open_slice_pairs Try.underlying39 Try.underlying98 (by kernel_rfl) rfl rfl (by kernel_rfl) (by kernel_rfl) h with ⟨rfl, -⟩ | ⟨a, len, cap, m, n, V0, V1, D0, D1, P0, P1, rfl, -, hl, hm, hmm, rfl, hx⟩
  · exact ⟨none, 0, [], rfl, SV.nil _ _, fun _ r hr => by cases hr⟩
  · have hle : len ≤ m := by rw [hmm]; split <;> omega
    have sv := sv_pairs (w := w) lRow rfl (a := a) (len := len) (cap := cap) (fun i => (strOf (V0 i), strOf (V1 i))) V0 V1 (fun i hi => by
      obtain ⟨h1, h2, h3, h4⟩ := hx i (by omega)
      obtain ⟨s, e1, -, -⟩ := DataW.trod_string Try.underlying9 h3
      obtain ⟨t, e2, -, -⟩ := DataW.trod_string Try.underlying9 h4
      have e1' : V0 i = .string s := by simpa using e1
      have e2' : V1 i = .string t := by simpa using e2
      exact ⟨h1, h2, by rw [e1', e2']; rfl⟩) hl hm
    have hlen : ((List.range len).map fun i => ((strOf (V0 i), strOf (V1 i)) : Rw)).length = len := by simp
    refine ⟨some a, cap, _, by rw [hlen], by rw [hlen]; exact sv, fun hF r hr => ?_⟩
    obtain ⟨i, hi, rfl⟩ := List.mem_map.1 hr
    have hil : i < len := List.mem_range.1 hi
    obtain ⟨-, -, h3, h4⟩ := hx i (by omega)
    obtain ⟨s, e1, d1, -⟩ := DataW.trod_string Try.underlying9 h3
    obtain ⟨t, e2, d2, -⟩ := DataW.trod_string Try.underlying9 h4
    have e1' : V0 i = .string s := by simpa using e1
    have e2' : V1 i = .string t := by simpa using e2
    have hA := hF.elem Try.underlying39 (List.mem_map.2 ⟨i, hi, rfl⟩)
    have p0 := hA.part Try.underlying98 (j := 0) rfl rfl
    have p1 := hA.part Try.underlying98 (j := 1) rfl rfl
    rw [(Prod.mk.inj d1).1] at p0
    rw [(Prod.mk.inj d2).1] at p1
    rw [e1', e2']
    exact ⟨p0.str, p1.str⟩
theorem ents_of {fuel : Nat} {cs : List Value} {x : DataW H × List MemPlace} (h : DataW.trod enc Try.prog w base spare held fuel 40 cs = some x) :
    ∃ (a : Option Addr) (c : Nat) (ents : List En), cs = [.slice a ents.length c] ∧ SV lEnt w (.slice a ents.length c) ents := by
  rcases Go.Deep.open_slice_pairs Try.underlying40 Try.underlying100 (by kernel_rfl) rfl rfl (by kernel_rfl) (by kernel_rfl) h with ⟨rfl, -⟩ | ⟨a, len, cap, m, n, V0, V1, D0, D1, P0, P1, rfl, -, hl, hm, hmm, -, hx⟩
  · exact ⟨none, 0, [], rfl, SV.nil _ _⟩
  · have hle : len ≤ m := by rw [hmm]; split <;> omega
    have sv := sv_pairs (w := w) lEnt rfl (a := a) (len := len) (cap := cap) (fun i => (strOf (V0 i), intOfV (V1 i))) V0 V1 (fun i hi => by
      obtain ⟨h1, h2, h3, h4⟩ := hx i (by omega)
      obtain ⟨s, e1, -, -⟩ := DataW.trod_string Try.underlying9 h3
      obtain ⟨t, e2, -, -⟩ := DataW.trod_int Try.underlying3 h4
      have e1' : V0 i = .string s := by simpa using e1
      have e2' : V1 i = .int .i64 t := by simpa using e2
      exact ⟨h1, h2, by rw [e1', e2']; rfl⟩) hl hm
    have hlen : ((List.range len).map fun i => ((strOf (V0 i), intOfV (V1 i)) : En)).length = len := by simp
    exact ⟨some a, cap, _, by rw [hlen], by rw [hlen]; exact sv⟩
theorem list3 {α : Type} {l : List α} (h : l.length = 3) : ∃ a b c, l = [a, b, c] := by
  match l, h with
  | [a, b, c], _ => exact ⟨a, b, c, rfl⟩
theorem list15 {α : Type} {l : List α} (h : l.length = 15) : ∃ a0 a1 a2 a3 a4 a5 a6 a7 a8 a9 a10 a11 a12 a13 a14, l = [a0, a1, a2, a3, a4, a5, a6, a7, a8, a9, a10, a11, a12, a13, a14] := by
  match l, h with
  | [a0, a1, a2, a3, a4, a5, a6, a7, a8, a9, a10, a11, a12, a13, a14], _ => exact ⟨a0, a1, a2, a3, a4, a5, a6, a7, a8, a9, a10, a11, a12, a13, a14, rfl⟩
theorem get_some {α : Type} {xs : List α} {n : Nat} (hl : xs.length = n) {i : Nat} (h : i < n) : ∃ y, xs[i]? = some y := ⟨_, List.getElem?_eq_getElem (by rw [hl]; exact h)⟩
theorem fld {fs : Array Field} {n : Nat} {cs : List Value} {xs : List (DataW H × List MemPlace)} (hf : ∀ (i : Nat) (f : Field), fs[i]? = some f → DataW.trod enc Try.prog w base spare held n f.type ((cs.drop f.offset).take (Try.prog.cellsOf f.type)) = xs[i]?)
    (i t o c : Nat) (ht : (fs[i]?).map (fun f => (f.type, f.offset)) = some (t, o)) (hc : Try.prog.cellsOf t = c) (hi : i < xs.length) : ∃ y, DataW.trod enc Try.prog w base spare held n t ((cs.drop o).take c) = some y ∧ xs[i]? = some y := by
  obtain ⟨f, h1, h2⟩ := Option.map_eq_some_iff.1 ht
  simp only [Prod.mk.injEq] at h2
  obtain ⟨rfl, rfl⟩ := h2
  subst hc
  exact ⟨_, (hf i f h1).trans (List.getElem?_eq_getElem hi), List.getElem?_eq_getElem hi⟩
set_option maxRecDepth 100000 in
theorem rec_of {fuel : Nat} {cs : List Value} {x : DataW H × List MemPlace} (h : DataW.trod enc Try.prog w base spare held fuel 44 cs = some x) :
    ∃ (s : Sc) (ra : Option Addr) (rc : Nat) (rows : List Rw) (ea : Option Addr) (ec : Nat) (ents : List En), cs = recCells s (.slice ra rows.length rc) (.slice ea ents.length ec) ∧ SV lRow w (.slice ra rows.length rc) rows ∧ SV lEnt w (.slice ea ents.length ec) ents ∧ (Fits 44 x.1 → SmallR rows) := by
  obtain ⟨xs, n, -, rfl, hl, hlen, hf⟩ := DataW.trod_struct Try.underlying44 h
  have c36 : Try.prog.cellsOf 44 = 15 := by kernel_rfl
  have cI : Try.prog.cellsOf 3 = 1 := by kernel_rfl
  have cS : Try.prog.cellsOf 9 = 1 := by kernel_rfl
  have cB : Try.prog.cellsOf 4 = 1 := by kernel_rfl
  have cR : Try.prog.cellsOf 39 = 1 := by kernel_rfl
  have cE : Try.prog.cellsOf 40 = 1 := by kernel_rfl
  have cH : Try.prog.cellsOf 42 = 3 := by kernel_rfl
  have cX : Try.prog.cellsOf 34 = 2 := by kernel_rfl
  rw [c36] at hl
  obtain ⟨a0, a1, a2, a3, a4, a5, a6, a7, a8, a9, a10, a11, a12, a13, a14, rfl⟩ := list15 hl
  have hn : xs.length = 12 := hlen
  obtain ⟨y0, f0, -⟩ := fld hf 0 3 0 1 rfl cI (by omega)
  obtain ⟨y1, f1, -⟩ := fld hf 1 9 1 1 rfl cS (by omega)
  obtain ⟨y2, f2, -⟩ := fld hf 2 9 2 1 rfl cS (by omega)
  obtain ⟨y3, f3, -⟩ := fld hf 3 4 3 1 rfl cB (by omega)
  obtain ⟨y4, f4, -⟩ := fld hf 4 3 4 1 rfl cI (by omega)
  obtain ⟨y5, f5, x5⟩ := fld hf 5 39 5 1 rfl cR (by omega)
  obtain ⟨y6, f6, -⟩ := fld hf 6 40 6 1 rfl cE (by omega)
  obtain ⟨y7, f7, -⟩ := fld hf 7 9 7 1 rfl cS (by omega)
  obtain ⟨y8, f8, -⟩ := fld hf 8 9 8 1 rfl cS (by omega)
  obtain ⟨y9, f9, -⟩ := fld hf 9 3 9 1 rfl cI (by omega)
  obtain ⟨y10, f10, -⟩ := fld hf 10 42 10 3 rfl cH (by omega)
  obtain ⟨y11, f11, -⟩ := fld hf 11 34 13 2 rfl cX (by omega)
  simp only [List.drop_zero, List.drop_succ_cons, List.take_succ_cons, List.take_zero] at f0 f1 f2 f3 f4 f5 f6 f7 f8 f9 f10 f11
  obtain ⟨k, g0, -, -⟩ := DataW.trod_int Try.underlying3 f0
  obtain ⟨lo, g1, -, -⟩ := DataW.trod_string Try.underlying9 f1
  obtain ⟨hi, g2, -, -⟩ := DataW.trod_string Try.underlying9 f2
  obtain ⟨un, g3, -⟩ := DataW.trod_bool Try.underlying4 f3
  obtain ⟨ri, g4, -, -⟩ := DataW.trod_int Try.underlying3 f4
  obtain ⟨ra, rc, rows, g5, sr, sw⟩ := rows_of f5
  obtain ⟨ea, ec, ents, g6, se⟩ := ents_of f6
  obtain ⟨ky, g7, -, -⟩ := DataW.trod_string Try.underlying9 f7
  obtain ⟨va, g8, -, -⟩ := DataW.trod_string Try.underlying9 f8
  obtain ⟨pg, g9, -, -⟩ := DataW.trod_int Try.underlying3 f9
  obtain ⟨xh, nh, -, -, -, hh, hfh⟩ := DataW.trod_struct Try.underlying42 f10
  obtain ⟨xr, nr, -, -, -, hr, hfr⟩ := DataW.trod_struct Try.underlying34 f11
  have hh3 : xh.length = 3 := hh
  have hr2 : xr.length = 2 := hr
  obtain ⟨u0, h0, -⟩ := fld hfh 0 3 0 1 rfl cI (by omega)
  obtain ⟨u1, h1, -⟩ := fld hfh 1 3 1 1 rfl cI (by omega)
  obtain ⟨u2, h2, -⟩ := fld hfh 2 9 2 1 rfl cS (by omega)
  obtain ⟨v0, h3, -⟩ := fld hfr 0 3 0 1 rfl cI (by omega)
  obtain ⟨v1, h4, -⟩ := fld hfr 1 3 1 1 rfl cI (by omega)
  simp only [List.drop_zero, List.drop_succ_cons, List.take_succ_cons, List.take_zero] at h0 h1 h2 h3 h4
  obtain ⟨hp, g10, -, -⟩ := DataW.trod_int Try.underlying3 h0
  obtain ⟨hl', g11, -, -⟩ := DataW.trod_int Try.underlying3 h1
  obtain ⟨hk, g12, -, -⟩ := DataW.trod_string Try.underlying9 h2
  obtain ⟨ns, g13, -, -⟩ := DataW.trod_int Try.underlying3 h3
  obtain ⟨ng, g14, -, -⟩ := DataW.trod_int Try.underlying3 h4
  simp only [List.cons.injEq, and_true] at g0 g1 g2 g3 g4 g5 g6 g7 g8 g9 g10 g11 g12 g13 g14
  subst g0 g1 g2 g3 g4 g5 g6 g7 g8 g9 g10 g11 g12 g13 g14
  exact ⟨⟨k, lo, hi, un, ri, ky, va, pg, hp, hl', hk, ns, ng⟩, ra, rc, rows, ea, ec, ents, rfl, sr, se, fun hF => sw (hF.part Try.underlying44 (j := 5) rfl (by rw [List.getElem?_map, x5]; rfl))⟩
set_option maxRecDepth 100000 in
theorem rec_in {r : Reach} {b0 : Nat} {v : Value} {d : DataW H} {p : List MemPlace} (hv : Value.okWide Try.prog w r b0 44 v) (h : DataW.Trod enc Try.prog w base spare held 44 v d p) :
    ∃ (s : Sc) (ra : Option Addr) (rc : Nat) (rows : List Rw) (ea : Option Addr) (ec : Nat) (ents : List En), v = recVal s (.slice ra rows.length rc) (.slice ea ents.length ec) ∧ SV lRow w (.slice ra rows.length rc) rows ∧ SV lEnt w (.slice ea ents.length ec) ents ∧ (Fits 44 d → SmallR rows) := by
  obtain ⟨cs, rfl, -⟩ := okWide_struct Try.underlying44 hv
  obtain ⟨fuel, hf⟩ := h
  obtain ⟨s, ra, rc, rows, ea, ec, ents, e, sr, se, sw⟩ := rec_of hf
  refine ⟨s, ra, rc, rows, ea, ec, ents, ?_, sr, se, sw⟩
  have : cs = (recCells s (.slice ra rows.length rc) (.slice ea ents.length ec)).toArray := by rw [← e]; simp [Value.cells]
  rw [this]; rfl
theorem list23 {α : Type} {l : List α} (h : l.length = 23) : ∃ a0 a1 a2 a3 a4 a5 a6 a7 m, l = a0 :: a1 :: a2 :: a3 :: a4 :: a5 :: a6 :: a7 :: m ∧ m.length = 15 := by
  match l, h with
  | a0 :: a1 :: a2 :: a3 :: a4 :: a5 :: a6 :: a7 :: m, h => exact ⟨a0, a1, a2, a3, a4, a5, a6, a7, m, rfl, by simpa using h⟩
theorem list2' {α : Type} {l : List α} (h : l.length = 2) : ∃ a b, l = [a, b] := by
  match l, h with
  | [a, b], _ => exact ⟨a, b, rfl⟩
theorem ref2_of {fuel : Nat} {cs : List Value} {x : DataW H × List MemPlace} (h : DataW.trod enc Try.prog w base spare held fuel 34 cs = some x) : ∃ s g : Int, cs = [.int .i64 s, .int .i64 g] := by
  obtain ⟨xr, nr, -, -, hl, hr, hfr⟩ := DataW.trod_struct Try.underlying34 h
  have cX : Try.prog.cellsOf 34 = 2 := by kernel_rfl
  have cI : Try.prog.cellsOf 3 = 1 := by kernel_rfl
  rw [cX] at hl
  have hr2 : xr.length = 2 := hr
  obtain ⟨a, b, rfl⟩ := list2' hl
  obtain ⟨v0, h3, -⟩ := fld hfr 0 3 0 1 rfl cI (by omega)
  obtain ⟨v1, h4, -⟩ := fld hfr 1 3 1 1 rfl cI (by omega)
  simp only [List.drop_zero, List.drop_succ_cons, List.take_succ_cons, List.take_zero] at h3 h4
  obtain ⟨x, g1, -, -⟩ := DataW.trod_int Try.underlying3 h3
  obtain ⟨y, g2, -, -⟩ := DataW.trod_int Try.underlying3 h4
  simp only [List.cons.injEq, and_true] at g1 g2
  subst g1 g2
  exact ⟨x, y, rfl⟩
set_option maxRecDepth 100000 in
theorem pick_list {α : Type} {Q : Nat → α → Prop} : ∀ len : Nat, (∀ i, i < len → ∃ d, Q i d) → ∃ ds : List α, ds.length = len ∧ ∀ i d, ds[i]? = some d → Q i d
  | 0, _ => ⟨[], rfl, fun i d h => by simp at h⟩
  | len + 1, h => by
    obtain ⟨ds, h1, h2⟩ := pick_list len (fun i hi => h i (by omega))
    obtain ⟨d, hd⟩ := h len (by omega)
    refine ⟨ds ++ [d], by simp [h1], fun i e he => ?_⟩
    by_cases hi : i < len
    · rw [List.getElem?_append_left (by omega)] at he
      exact h2 i e he
    · rw [List.getElem?_append_right (by omega), h1] at he
      have : i - len = 0 := by
        have := (List.getElem?_eq_some_iff.1 he).1
        simp at this; omega
      rw [this] at he
      obtain rfl : d = e := by simpa using he
      rw [show i = len by omega]; exact hd
theorem list6 {α : Type} {l : List α} (h : l.length = 6) : ∃ a0 a1 a2 a3 a4 a5, l = [a0, a1, a2, a3, a4, a5] := by
  match l, h with
  | [a0, a1, a2, a3, a4, a5], _ => exact ⟨a0, a1, a2, a3, a4, a5, rfl⟩
set_option maxRecDepth 100000 in
theorem lim_of {fuel : Nat} {cs : List Value} {x : DataW H × List MemPlace} (h : DataW.trod enc Try.prog w base spare held fuel 23 cs = some x) : ∃ l : Lim, cs = l.cells.toList := by
  obtain ⟨xs, n, -, rfl, hl, hlen, hf⟩ := DataW.trod_struct Try.underlying23 h
  have cL : Try.prog.cellsOf 23 = 6 := by kernel_rfl
  have cI : Try.prog.cellsOf 3 = 1 := by kernel_rfl
  rw [cL] at hl
  obtain ⟨a0, a1, a2, a3, a4, a5, rfl⟩ := list6 hl
  have hn : xs.length = 6 := hlen
  obtain ⟨y0, f0, -⟩ := fld hf 0 3 0 1 rfl cI (by omega)
  obtain ⟨y1, f1, -⟩ := fld hf 1 3 1 1 rfl cI (by omega)
  obtain ⟨y2, f2, -⟩ := fld hf 2 3 2 1 rfl cI (by omega)
  obtain ⟨y3, f3, -⟩ := fld hf 3 3 3 1 rfl cI (by omega)
  obtain ⟨y4, f4, -⟩ := fld hf 4 3 4 1 rfl cI (by omega)
  obtain ⟨y5, f5, -⟩ := fld hf 5 3 5 1 rfl cI (by omega)
  simp only [List.drop_zero, List.drop_succ_cons, List.take_succ_cons, List.take_zero] at f0 f1 f2 f3 f4 f5
  obtain ⟨i0, g0, -, -⟩ := DataW.trod_int Try.underlying3 f0
  obtain ⟨i1, g1, -, -⟩ := DataW.trod_int Try.underlying3 f1
  obtain ⟨i2, g2, -, -⟩ := DataW.trod_int Try.underlying3 f2
  obtain ⟨i3, g3, -, -⟩ := DataW.trod_int Try.underlying3 f3
  obtain ⟨i4, g4, -, -⟩ := DataW.trod_int Try.underlying3 f4
  obtain ⟨i5, g5, -, -⟩ := DataW.trod_int Try.underlying3 f5
  simp only [List.cons.injEq, and_true] at g0 g1 g2 g3 g4 g5
  subst g0 g1 g2 g3 g4 g5
  exact ⟨⟨i0, i1, i2, i3, i4, i5⟩, rfl⟩
set_option maxRecDepth 100000 in
theorem lim_in {r : Reach} {b0 : Nat} {v : Value} {d : DataW H} {p : List MemPlace} (hv : Value.okWide Try.prog w r b0 23 v) (h : DataW.Trod enc Try.prog w base spare held 23 v d p) : ∃ l : Lim, v = limV l := by
  obtain ⟨cs, rfl, -⟩ := okWide_struct Try.underlying23 hv
  obtain ⟨fuel, hf⟩ := h
  obtain ⟨l, e⟩ := lim_of hf
  refine ⟨l, ?_⟩
  have : cs = l.cells.toList.toArray := by rw [← e]; simp [Value.cells]
  rw [this]; rfl
set_option maxRecDepth 100000 in
end

open Go.RowKit

/-- a record as it lies reads as this one, however long -/
def RcW (w : World) (x : RcL) (e : RecD) : Prop := x.sc = e.sc ∧ SV lRow w (.slice x.ra x.rn x.rc) e.rows ∧ SV lEnt w (.slice x.ea x.en x.ec) e.ents
theorem RcW.right {w : World} {x : RcL} {e : RecD} (h : RcW w x e) (h1 : x.rn ≤ 20) (h2 : x.en ≤ 20) : RcR w x e := by
  obtain ⟨a, b, c⟩ := h
  obtain ⟨_, _, e1, -⟩ := b.lenform
  obtain ⟨_, _, e2, -⟩ := c.lenform
  have n1 := (Value.slice.inj e1).2.1
  have n2 := (Value.slice.inj e2).2.1
  exact ⟨a, b, c, by omega, by omega⟩
structure JobW (w : World) (d : JbD) (bs : List RcL) (ds : List RecD) (hd : RecD) : Prop where
  sv : SV lRec w (.slice d.ba d.bn d.bc) bs
  len : bs.length = ds.length
  each : ∀ (j : Nat) (x : RcL) (e : RecD), bs[j]? = some x → ds[j]? = some e → RcW w x e
  head : RcW w d.hd hd
theorem JobW.right {w : World} {d : JbD} {bs : List RcL} {ds : List RecD} {hd : RecD} (h : JobW w d bs ds hd) (hf : d.few bs) : JobR w d bs ds hd := by
  obtain ⟨f1, f2, f3, f4⟩ := hf
  obtain ⟨_, _, e1, -⟩ := h.sv.lenform
  have n1 := (Value.slice.inj e1).2.1
  exact ⟨h.sv, h.len, by omega, fun j x e h1 h2 => (h.each j x e h1 h2).right (f4 x (List.mem_of_getElem? h1)).1 (f4 x (List.mem_of_getElem? h1)).2, h.head.right f2 f3⟩
theorem RcW.low {w w' : World} {x : RcL} {e : RecD} (h : RcW w x e) (hb : Below w.heap.size w w') : RcW w' x e := ⟨h.1, h.2.1.below hb, h.2.2.below hb⟩
theorem JobW.low {w w' : World} {d : JbD} {bs : List RcL} {ds : List RecD} {hd : RecD} (h : JobW w d bs ds hd) (hb : Below w.heap.size w w') : JobW w' d bs ds hd :=
  ⟨h.sv.below hb, h.len, fun j x e h1 h2 => (h.each j x e h1 h2).low hb, h.head.low hb⟩
/-- page and head do not matter to what a job holds -/
theorem JobR.at0 {w : World} {d : JbD} {bs : List RcL} {ds : List RecD} {hd : RecD} (h : JobR w d bs ds hd) (p x y : Int) : JobR w { d with page := p, os := x, og := y } bs ds hd := ⟨h.sv, h.len, h.lim, h.each, h.head⟩

open Go.ChangeShapes Go.WideShapes Go.RowKit

section
variable {H : Type} {enc : TypeId × Value → H} {w : World} {base : Nat} {spare : Nat → Bool} {held : Bool}
theorem sv_wide {α : Type} (E : Lay α) {t : TypeId} (ht : Try.prog.underlying t = some (.slice E.ty)) (hc : Try.prog.cellsOf E.ty = E.sz) (hz : 0 < E.sz) (P : α → Prop)
    (hp : ∀ (fuel : Nat) (cs : List Value) (x : DataW H × List MemPlace), DataW.trod enc Try.prog w base spare held fuel E.ty cs = some x → ∃ d, cs = E.enc d ∧ P d) {fuel : Nat} {cs : List Value} {x : DataW H × List MemPlace} (h : DataW.trod enc Try.prog w base spare held fuel t cs = some x) :
    ∃ (a : Option Addr) (c : Nat) (ds : List α), cs = [.slice a ds.length c] ∧ SV E w (.slice a ds.length c) ds ∧ ∀ d ∈ ds, P d := by
  rcases Go.Deep.open_slice ht h with ⟨rfl, -⟩ | ⟨a, len, cap, m, n, D, Pl, rfl, -, hl, hm, hmm, -, hx⟩
  · exact ⟨none, 0, [], rfl, SV.nil _ _, fun d hd => by cases hd⟩
  · have hle : len ≤ m := by rw [hmm]; split <;> omega
    have spot : 0 < len → a.spot = none := fun h0 => by
      obtain ⟨cs', h1, -⟩ := hx 0 (by omega)
      rw [hc] at h1
      obtain ⟨-, h2, h3⟩ := World.cells?_some h1
      obtain ⟨u, hu⟩ := get_some h2 (i := 0) hz
      have := h3 0 hz
      rw [hu] at this
      have := World.cell?_spot this
      simpa [Addr.add] using this
    obtain ⟨ds, h1, h2⟩ := pick_list (Q := fun i (d : α) => P d ∧ ∀ j u, (E.enc d)[j]? = some u → w.cell? ⟨a.block, a.off + i * E.sz + j, none⟩ = some u) len (fun i hi => by
      obtain ⟨cs', g1, g2⟩ := hx i (by omega)
      rw [hc] at g1
      obtain ⟨-, g3, g4⟩ := World.cells?_some g1
      obtain ⟨d, rfl, hP⟩ := hp _ _ _ g2
      refine ⟨d, hP, fun j u hu => ?_⟩
      have hj : j < E.sz := by have := (List.getElem?_eq_some_iff.1 hu).1; rw [g3] at this; exact this
      have := g4 j hj
      rw [hu] at this
      rw [← this]
      obtain ⟨b, off, sp⟩ := a
      have hs : sp = none := spot (by omega)
      subst hs
      rw [Go.WideShapes.add_plain, Go.WideShapes.add_plain])
    refine ⟨some a, cap, ds, by rw [h1], ⟨some a, cap, by rw [h1], by rw [h1]; exact hl, hm, fun h => (by cases h), a.block, a.off, fun hne x hx => ?_, fun j u hu => ?_⟩, fun d hd => ?_⟩
    · rw [h1] at hne
      obtain rfl := Option.some.inj hx
      have hs := spot (by omega)
      obtain ⟨b, off, sp⟩ := a
      simp only at hs
      subst hs
      rfl
    · have hj : j < len * E.sz := by
        have := (List.getElem?_eq_some_iff.1 hu).1
        rw [E.flat_len, h1] at this; exact this
      have hq : j / E.sz < len := Nat.div_lt_of_lt_mul (by rw [Nat.mul_comm]; exact hj)
      obtain ⟨d, hd⟩ := get_some h1 hq
      have e := E.flat_at _ (j / E.sz) (j % E.sz) _ hd (Nat.mod_lt _ hz)
      rw [Nat.div_add_mod' j E.sz, hu] at e
      have := (h2 _ _ hd).2 (j % E.sz) u e.symm
      rw [← this, Nat.add_assoc, Nat.div_add_mod' j E.sz]
    · obtain ⟨i, hi, hd'⟩ := List.getElem_of_mem hd
      exact (h2 i d (by rw [List.getElem?_eq_getElem hi, hd'])).1
set_option maxRecDepth 100000 in
theorem recW_of (fuel : Nat) (cs : List Value) (x : DataW H × List MemPlace) (h : DataW.trod enc Try.prog w base spare held fuel 44 cs = some x) : ∃ d : RcL, cs = d.cells ∧ ∃ e : RecD, RcW w d e := by
  obtain ⟨s, ra, rc, rows, ea, ec, ents, rfl, sr, se, -⟩ := rec_of h
  exact ⟨⟨s, ra, rows.length, rc, ea, ents.length, ec⟩, rfl, ⟨s, rows, ents⟩, rfl, sr, se⟩
theorem pick_each {α β : Type} {R : α → β → Prop} : ∀ xs : List α, (∀ x ∈ xs, ∃ y, R x y) → ∃ ys : List β, xs.length = ys.length ∧ ∀ (j : Nat) (x : α) (y : β), xs[j]? = some x → ys[j]? = some y → R x y
  | [], _ => ⟨[], rfl, fun j x y h => by simp at h⟩
  | x :: xs, h => by
    obtain ⟨y, hy⟩ := h x (by simp)
    obtain ⟨ys, h1, h2⟩ := pick_each xs (fun z hz => h z (by simp [hz]))
    refine ⟨y :: ys, by simp [h1], fun j a b ha hb => ?_⟩
    cases j with
    | zero =>
      obtain rfl : x = a := by simpa using ha
      obtain rfl : y = b := by simpa using hb
      exact hy
    | succ j => exact h2 j a b (by simpa using ha) (by simpa using hb)
theorem list21 {α : Type} {l : List α} (h : l.length = 21) : ∃ a0 a1 a2 a3 a4 m f, l = a0 :: a1 :: a2 :: a3 :: a4 :: (m ++ [f]) ∧ m.length = 15 := by
  match l, h with
  | [a0, a1, a2, a3, a4, b0, b1, b2, b3, b4, b5, b6, b7, b8, b9, b10, b11, b12, b13, b14, f], _ => exact ⟨a0, a1, a2, a3, a4, [b0, b1, b2, b3, b4, b5, b6, b7, b8, b9, b10, b11, b12, b13, b14], f, rfl, rfl⟩
set_option maxRecDepth 100000 in
theorem job_of (fuel : Nat) (cs : List Value) (x : DataW H × List MemPlace) (h : DataW.trod enc Try.prog w base spare held fuel 46 cs = some x) : ∃ d : JbD, cs = d.cells ∧ ∃ J : JobT, J.d = d ∧ JobW w J.d J.bs J.ds J.hd := by
  obtain ⟨xs, n, -, rfl, hl, hlen, hf⟩ := DataW.trod_struct Try.underlying46 h
  have cJ : Try.prog.cellsOf 46 = 21 := by kernel_rfl
  have c15 : Try.prog.cellsOf 44 = 15 := by kernel_rfl
  have cI : Try.prog.cellsOf 3 = 1 := by kernel_rfl
  have cX : Try.prog.cellsOf 34 = 2 := by kernel_rfl
  have cL : Try.prog.cellsOf 38 = 1 := by kernel_rfl
  rw [cJ] at hl
  obtain ⟨a0, a1, a2, a3, a4, m, f, rfl, hm⟩ := list21 hl
  have hn : xs.length = 6 := hlen
  obtain ⟨y0, f0, -⟩ := fld hf 0 3 0 1 rfl cI (by omega)
  obtain ⟨y1, f1, -⟩ := fld hf 1 34 1 2 rfl cX (by omega)
  obtain ⟨y2, f2, -⟩ := fld hf 2 3 3 1 rfl cI (by omega)
  obtain ⟨y3, f3, -⟩ := fld hf 3 38 4 1 rfl cL (by omega)
  obtain ⟨y4, f4, -⟩ := fld hf 4 44 5 15 rfl c15 (by omega)
  obtain ⟨y5, f5, -⟩ := fld hf 5 3 20 1 rfl cI (by omega)
  simp only [List.drop_zero, List.drop_succ_cons, List.take_succ_cons, List.take_zero] at f0 f1 f2 f3 f4 f5
  rw [List.take_append_of_le_length (by omega), List.take_of_length_le (by omega)] at f4
  rw [show (15 : Nat) = m.length from hm.symm, List.drop_left] at f5
  simp only [List.take_succ_cons, List.take_zero] at f5
  obtain ⟨page, g0, -, -⟩ := DataW.trod_int Try.underlying3 f0
  obtain ⟨os, og, g1⟩ := ref2_of f1
  obtain ⟨news, g2, -, -⟩ := DataW.trod_int Try.underlying3 f2
  obtain ⟨ba, bc, bs, g3, sb, hb⟩ := sv_wide lRec Try.underlying38 c15 (by decide) (fun d => ∃ e : RecD, RcW w d e) recW_of f3
  obtain ⟨hd, rfl, he, hh⟩ := recW_of _ _ _ f4
  obtain ⟨fr, g5, -, -⟩ := DataW.trod_int Try.underlying3 f5
  simp only [List.cons.injEq, and_true] at g0 g1 g2 g3 g5
  obtain ⟨g1, g1'⟩ := g1
  subst g0 g1 g1' g2 g3 g5
  obtain ⟨es, e1, e2⟩ := pick_each bs hb
  exact ⟨⟨page, os, og, news, ba, bs.length, bc, hd, fr⟩, rfl, ⟨⟨page, os, og, news, ba, bs.length, bc, hd, fr⟩, bs, es, he, 0, 0⟩, rfl, sb, e1, e2, hh⟩
theorem pick_map {α β : Type} (f : β → α) {R : β → Prop} : ∀ xs : List α, (∀ x ∈ xs, ∃ y, f y = x ∧ R y) → ∃ ys : List β, xs = ys.map f ∧ ∀ y ∈ ys, R y
  | [], _ => ⟨[], rfl, fun y h => by cases h⟩
  | x :: xs, h => by
    obtain ⟨y, rfl, hy⟩ := h x (by simp)
    obtain ⟨ys, h1, h2⟩ := pick_map f xs (fun z hz => h z (by simp [hz]))
    exact ⟨y :: ys, by rw [h1]; rfl, fun z hz => (List.mem_cons.1 hz).elim (fun e => e ▸ hy) (h2 z)⟩
set_option maxRecDepth 100000 in
theorem jobs_in {r : Reach} {b0 : Nat} {v : Value} {d : DataW H} {p : List MemPlace} (hv : Value.okWide Try.prog w r b0 24 v) (h : DataW.Trod enc Try.prog w base spare held 24 v d p) :
    ∃ jt : List JobT, SV lJob w v (jt.map JobT.d) ∧ ∀ (q : Nat) (J : JobT), jt[q]? = some J → JobW w J.d J.bs J.ds J.hd := by
  obtain ⟨fuel, hf⟩ := h
  obtain ⟨a0, len0, cap0, rfl⟩ := okWide_slice Try.underlying24 hv
  have cJ : Try.prog.cellsOf 46 = 21 := by kernel_rfl
  obtain ⟨a, c, ds, e, sv, hP⟩ := sv_wide lJob Try.underlying24 cJ (by decide) (fun d => ∃ J : JobT, J.d = d ∧ JobW w J.d J.bs J.ds J.hd) job_of hf
  have e' : Value.slice a0 len0 cap0 = .slice a ds.length c := by simpa [Value.cells] using e
  rw [e']
  obtain ⟨jt, rfl, hR⟩ := pick_map JobT.d (R := fun J => JobW w J.d J.bs J.ds J.hd) ds hP
  exact ⟨jt, sv, fun q J hq => hR J (List.mem_of_getElem? hq)⟩
/-- single bytes -/
def lU8 : Lay Int := ⟨5, 1, fun z => [.int .u8 z], fun _ => rfl, fun x u h => by simp at h; subst h; rfl⟩
set_option maxRecDepth 100000 in
theorem u8s_in {r : Reach} {b0 : Nat} {v : Value} {d : DataW H} {p : List MemPlace} (hv : Value.okWide Try.prog w r b0 25 v) (h : DataW.Trod enc Try.prog w base spare held 25 v d p) :
    ∃ (a : Option Addr) (c : Nat) (zs : List Int), v = .slice a zs.length c ∧ SV lU8 w (.slice a zs.length c) zs ∧ ∀ z ∈ zs, 0 ≤ z ∧ z ≤ 255 := by
  obtain ⟨fuel, hf⟩ := h
  obtain ⟨a0, len0, cap0, rfl⟩ := okWide_slice Try.underlying25 hv
  have cU : Try.prog.cellsOf 5 = 1 := by kernel_rfl
  obtain ⟨a, c, ds, e, sv, hP⟩ := sv_wide lU8 Try.underlying25 cU (by decide) (fun z => 0 ≤ z ∧ z ≤ 255) (fun fuel cs x hx => by
    obtain ⟨z, g, -, g3⟩ := DataW.trod_int Try.underlying5 hx
    subst g
    refine ⟨z, rfl, ?_⟩
    simp only [Lit.wf, Bool.and_eq_true, decide_eq_true_eq] at g3
    exact g3) hf
  have e' : Value.slice a0 len0 cap0 = .slice a ds.length c := by simpa [Value.cells] using e
  exact ⟨a, c, ds, e', sv, hP⟩
end
end Go.Proofs.Ytaiaaljahnackaa
