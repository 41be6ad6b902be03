/- Chains of records that came in: what they read as. -/
import Derived.Test.YtkkmfacngmginaaRows
import Derived.Test.YtkkmfacngmginaaLfChain
import Derived.Deep.SlicePairs
import Derived.SizedLaws
namespace Go.Proofs.Ytkkmfacngmginaa
open Go.ChangeShapes Go.WideShapes Go.RowKit
theorem Try.own : ownKnob Try.prog.godebug = none := by kernel_rfl
theorem Try.laidOut : laidOutB Try.prog = true := by kernel_rfl

section
variable {H : Type} {enc : TypeId × Value → H} {w : World} {base : Nat} {spare : Nat → Bool} {held : Bool}
theorem sv_pairs {α : Type} (E : Lay α) (hsz : E.sz = 2) {a : Addr} {len cap : Nat} (f : Nat → α) (V0 V1 : Nat → Value) (h : ∀ i, i < len → w.cell? (a.add (i * 2)) = some (V0 i) ∧ w.cell? (a.add (i * 2 + 1)) = some (V1 i) ∧ E.enc (f i) = [V0 i, V1 i])
    (hl : len ≤ cap) (hm : cap ≤ maxLen) : SV E w (.slice (some a) len cap) ((List.range len).map f) := by
  obtain ⟨b, off, spot⟩ := a
  have hlen : ((List.range len).map f).length = len := by simp
  refine ⟨some ⟨b, off, spot⟩, cap, by rw [hlen], by rw [hlen]; exact hl, hm, fun h => (by cases h), b, off, fun hne x hx => ?_, fun j u hu => ?_⟩
  · rw [hlen] at hne
    have hs := World.cell?_spot (h 0 (by omega)).1
    simp only [Addr.add, Nat.zero_mul, if_true] at hs
    subst hs
    exact (Option.some.inj hx).symm
  · have hj : j < len * 2 := by
      have := (List.getElem?_eq_some_iff.1 hu).1
      rw [E.flat_len, hlen, hsz] at this; exact this
    have hi : j / 2 < len := by omega
    have hx : ((List.range len).map f)[j / 2]? = some (f (j / 2)) := by rw [List.getElem?_map, List.getElem?_range hi]; rfl
    have e := E.flat_at _ (j / 2) (j % 2) _ hx (by rw [hsz]; exact Nat.mod_lt _ (by decide))
    rw [hsz, show j / 2 * 2 + j % 2 = j from Nat.div_add_mod' j 2, hu] at e
    obtain ⟨h0, h1, h2⟩ := h (j / 2) hi
    have hs := World.cell?_spot (h 0 (by omega)).1
    simp only [Addr.add, Nat.zero_mul, if_true] at hs
    subst hs
    rw [Go.WideShapes.add_plain] at h0 h1
    rw [h2] at e
    rcases Nat.mod_two_eq_zero_or_one j with hm | hm
    · rw [hm] at e
      obtain rfl : u = V0 (j / 2) := by simpa using e
      rw [show off + j = off + j / 2 * 2 by omega]; exact h0
    · rw [hm] at e
      obtain rfl : u = V1 (j / 2) := by simpa using e
      rw [show off + j = off + (j / 2 * 2 + 1) by omega]; exact h1
def strOf : Value → ByteArray | .string s => s | _ => ByteArray.empty
def intOfV : Value → Int | .int _ a => a | _ => 0
/-- all that is in a datum takes no more than the form's own reach -/
def Fits (t : TypeId) (d : DataW H) : Prop := ∀ k ∈ d.weights Try.prog t, k ≤ reachBytes
theorem wAll_mem {e : TypeId} {d : DataW H} {k : Nat} (hk : k ∈ d.weights Try.prog e) : ∀ {l : List (DataW H)}, d ∈ l → k ∈ DataW.weightsAll Try.prog e l
  | [], h => by cases h
  | y :: l, h => by
    simp only [DataW.weightsAll, List.mem_append]
    rcases List.mem_cons.1 h with rfl | h
    · exact .inl hk
    · exact .inr (wAll_mem hk h)
theorem Fits.elem {t e : TypeId} {elems spare' : List (DataW H)} (h : Fits t (.slice elems spare')) (hu : Try.prog.underlying t = some (.slice e)) {d : DataW H} (hd : d ∈ elems) : Fits e d := fun k hk => by
  refine h k ?_
  simp only [DataW.weights, hu]
  exact List.mem_cons_of_mem _ (List.mem_append_left _ (wAll_mem hk hd))
theorem Fits.part {t : TypeId} {fs : Array Field} {parts : List (DataW H)} (h : Fits t (.agg parts)) (hu : Try.prog.underlying t = some (.struct fs)) {j tj : Nat} {d : DataW H} (ht : (fs[j]?).map (·.type) = some tj) (hd : parts[j]? = some d) : Fits tj d := fun k hk => by
  refine h k ?_
  simp only [DataW.weights, hu]
  exact DataW.weights_mem_each (j := j) (by rw [List.getElem?_map, Array.getElem?_toList]; exact ht) hd k hk
theorem Fits.str {t : TypeId} {s : ByteArray} (h : Fits t (.lit (.string s.data.toList) : DataW H)) : s.size ≤ reachBytes := by
  have := h s.data.toList.length (by simp [DataW.weights])
  simpa using this
theorem sized_arg {ts : List TypeId} {ds : List (DataW H)} (h : (DataW.weightsEach Try.prog ts ds).all (· ≤ reachBytes) = true) {j : Nat} {t : TypeId} {d : DataW H} (ht : ts[j]? = some t) (hd : ds[j]? = some d) : Fits t d := fun k hk => by
  have := List.all_eq_true.1 h k (DataW.weights_mem_each ht hd k hk)
  simpa using this
theorem Fits.len {t e : TypeId} {elems spare' : List (DataW H)} (h : Fits t (.slice elems spare')) (hu : Try.prog.underlying t = some (.slice e)) {b : Nat} (hb : Try.prog.bytesOf e = b) : b * elems.length ≤ 281474976710656 := by
  have := h ((elems.length + spare'.length) * Try.prog.bytesOf e) (by simp only [DataW.weights, hu]; exact List.mem_cons_self)
  rw [hb] at this
  unfold reachBytes at this
  have h2 : elems.length * b ≤ (elems.length + spare'.length) * b := Nat.mul_le_mul_right b (by omega)
  rw [Nat.mul_comm]
  omega
theorem rowsL_of {fuel : Nat} {cs : List Value} {x : DataW H × List MemPlace} (h : DataW.trod enc Try.prog w base spare held fuel 35 cs = some x) :
    ∃ (a : Option Addr) (c : Nat) (rows : List Rw), cs = [.slice a rows.length c] ∧ SV lRow w (.slice a rows.length c) rows ∧ Small rows ∧ (Fits 35 x.1 → 32 * rows.length ≤ 281474976710656) := by
  rcases Go.Deep.open_slice_pairs Try.underlying35 Try.underlying133 (by kernel_rfl) rfl rfl (by kernel_rfl) (by kernel_rfl) h with ⟨rfl, -⟩ | ⟨a, len, cap, m, n, V0, V1, D0, D1, P0, P1, rfl, -, hl, hm, hmm, rfl, hx⟩
  · exact ⟨none, 0, [], rfl, SV.nil _ _, Small.nil, fun _ => by simp⟩
  · have hle : len ≤ m := by rw [hmm]; split <;> omega
    have sv := sv_pairs (w := w) lRow rfl (a := a) (len := len) (cap := cap) (fun i => (strOf (V0 i), strOf (V1 i))) V0 V1 (fun i hi => by
      obtain ⟨h1, h2, h3, h4⟩ := hx i (by omega)
      obtain ⟨s, e1, -, -⟩ := DataW.trod_string Try.underlying9 h3
      obtain ⟨t, e2, -, -⟩ := DataW.trod_string Try.underlying9 h4
      have e1' : V0 i = .string s := by simpa using e1
      have e2' : V1 i = .string t := by simpa using e2
      exact ⟨h1, h2, by rw [e1', e2']; rfl⟩) hl hm
    have hlen : ((List.range len).map fun i => ((strOf (V0 i), strOf (V1 i)) : Rw)).length = len := by simp
    refine ⟨some a, cap, _, by rw [hlen], by rw [hlen]; exact sv, fun r hr => ?_, fun hF => ?_⟩
    · obtain ⟨i, hi, rfl⟩ := List.mem_map.1 hr
      have hil : i < len := List.mem_range.1 hi
      obtain ⟨-, -, h3, h4⟩ := hx i (by omega)
      obtain ⟨s, e1, -, hs⟩ := DataW.trod_string Try.underlying9 h3
      obtain ⟨t, e2, -, ht⟩ := DataW.trod_string Try.underlying9 h4
      have e1' : V0 i = .string s := by simpa using e1
      have e2' : V1 i = .string t := by simpa using e2
      rw [e1', e2']
      exact ⟨hs, ht⟩
    · have := hF.len Try.underlying35 (b := 32) (by kernel_rfl)
      rw [List.length_map, List.length_range] at this
      rw [hlen]; exact this
theorem entsL_of {fuel : Nat} {cs : List Value} {x : DataW H × List MemPlace} (h : DataW.trod enc Try.prog w base spare held fuel 25 cs = some x) :
    ∃ (a : Option Addr) (c : Nat) (ents : List En), cs = [.slice a ents.length c] ∧ SV lEnt w (.slice a ents.length c) ents ∧ SmallE ents ∧ (Fits 25 x.1 → 24 * ents.length ≤ 281474976710656) := by
  rcases Go.Deep.open_slice_pairs Try.underlying25 Try.underlying44 (by kernel_rfl) rfl rfl (by kernel_rfl) (by kernel_rfl) h with ⟨rfl, -⟩ | ⟨a, len, cap, m, n, V0, V1, D0, D1, P0, P1, rfl, -, hl, hm, hmm, rfl, hx⟩
  · exact ⟨none, 0, [], rfl, SV.nil _ _, (fun _ h => by cases h), fun _ => by simp⟩
  · have hle : len ≤ m := by rw [hmm]; split <;> omega
    have sv := sv_pairs (w := w) lEnt rfl (a := a) (len := len) (cap := cap) (fun i => (strOf (V0 i), intOfV (V1 i))) V0 V1 (fun i hi => by
      obtain ⟨h1, h2, h3, h4⟩ := hx i (by omega)
      obtain ⟨s, e1, -, -⟩ := DataW.trod_string Try.underlying9 h3
      obtain ⟨t, e2, -, -⟩ := DataW.trod_int Try.underlying3 h4
      have e1' : V0 i = .string s := by simpa using e1
      have e2' : V1 i = .int .i64 t := by simpa using e2
      exact ⟨h1, h2, by rw [e1', e2']; rfl⟩) hl hm
    have hlen : ((List.range len).map fun i => ((strOf (V0 i), intOfV (V1 i)) : En)).length = len := by simp
    refine ⟨some a, cap, _, by rw [hlen], by rw [hlen]; exact sv, fun r hr => ?_, fun hF => ?_⟩
    · obtain ⟨i, hi, rfl⟩ := List.mem_map.1 hr
      have hil : i < len := List.mem_range.1 hi
      obtain ⟨-, -, h3, -⟩ := hx i (by omega)
      obtain ⟨s, e1, -, hs⟩ := DataW.trod_string Try.underlying9 h3
      have e1' : V0 i = .string s := by simpa using e1
      show (strOf (V0 i)).size ≤ maxLen
      rw [e1']
      exact hs
    · have := hF.len Try.underlying25 (b := 24) (by kernel_rfl)
      rw [List.length_map, List.length_range] at this
      rw [hlen]; exact this
theorem list3 {α : Type} {l : List α} (h : l.length = 3) : ∃ a b c, l = [a, b, c] := by
  match l, h with
  | [a, b, c], _ => exact ⟨a, b, c, rfl⟩
theorem list15 {α : Type} {l : List α} (h : l.length = 15) : ∃ a0 a1 a2 a3 a4 a5 a6 a7 a8 a9 a10 a11 a12 a13 a14, l = [a0, a1, a2, a3, a4, a5, a6, a7, a8, a9, a10, a11, a12, a13, a14] := by
  match l, h with
  | [a0, a1, a2, a3, a4, a5, a6, a7, a8, a9, a10, a11, a12, a13, a14], _ => exact ⟨a0, a1, a2, a3, a4, a5, a6, a7, a8, a9, a10, a11, a12, a13, a14, rfl⟩
theorem get_some {α : Type} {xs : List α} {n : Nat} (hl : xs.length = n) {i : Nat} (h : i < n) : ∃ y, xs[i]? = some y := ⟨_, List.getElem?_eq_getElem (by rw [hl]; exact h)⟩
theorem fld {fs : Array Field} {n : Nat} {cs : List Value} {xs : List (DataW H × List MemPlace)} (hf : ∀ (i : Nat) (f : Field), fs[i]? = some f → DataW.trod enc Try.prog w base spare held n f.type ((cs.drop f.offset).take (Try.prog.cellsOf f.type)) = xs[i]?)
    (i t o c : Nat) (ht : (fs[i]?).map (fun f => (f.type, f.offset)) = some (t, o)) (hc : Try.prog.cellsOf t = c) (hi : i < xs.length) : ∃ y, DataW.trod enc Try.prog w base spare held n t ((cs.drop o).take c) = some y ∧ xs[i]? = some y := by
  obtain ⟨f, h1, h2⟩ := Option.map_eq_some_iff.1 ht
  simp only [Prod.mk.injEq] at h2
  obtain ⟨rfl, rfl⟩ := h2
  subst hc
  exact ⟨_, (hf i f h1).trans (List.getElem?_eq_getElem hi), List.getElem?_eq_getElem hi⟩
set_option maxRecDepth 100000 in
theorem recL_of {fuel : Nat} {cs : List Value} {x : DataW H × List MemPlace} (h : DataW.trod enc Try.prog w base spare held fuel 39 cs = some x) :
    ∃ d : RcD, cs = d.cells ∧ (Fits 39 x.1 → RcW w d) := by
  obtain ⟨xs, n, -, rfl, hl, hlen, hf⟩ := DataW.trod_struct Try.underlying39 h
  have c36 : Try.prog.cellsOf 39 = 15 := by kernel_rfl
  have cI : Try.prog.cellsOf 3 = 1 := by kernel_rfl
  have cS : Try.prog.cellsOf 9 = 1 := by kernel_rfl
  have cB : Try.prog.cellsOf 4 = 1 := by kernel_rfl
  have cR : Try.prog.cellsOf 35 = 1 := by kernel_rfl
  have cE : Try.prog.cellsOf 25 = 1 := by kernel_rfl
  have cH : Try.prog.cellsOf 27 = 3 := by kernel_rfl
  have cX : Try.prog.cellsOf 37 = 2 := by kernel_rfl
  rw [c36] at hl
  obtain ⟨a0, a1, a2, a3, a4, a5, a6, a7, a8, a9, a10, a11, a12, a13, a14, rfl⟩ := list15 hl
  have hn : xs.length = 12 := hlen
  obtain ⟨y0, f0, -⟩ := fld hf 0 3 0 1 rfl cI (by omega)
  obtain ⟨y1, f1, -⟩ := fld hf 1 9 1 1 rfl cS (by omega)
  obtain ⟨y2, f2, -⟩ := fld hf 2 9 2 1 rfl cS (by omega)
  obtain ⟨y3, f3, -⟩ := fld hf 3 4 3 1 rfl cB (by omega)
  obtain ⟨y4, f4, -⟩ := fld hf 4 3 4 1 rfl cI (by omega)
  obtain ⟨y5, f5, x5⟩ := fld hf 5 35 5 1 rfl cR (by omega)
  obtain ⟨y6, f6, x6⟩ := fld hf 6 25 6 1 rfl cE (by omega)
  obtain ⟨y7, f7, -⟩ := fld hf 7 9 7 1 rfl cS (by omega)
  obtain ⟨y8, f8, -⟩ := fld hf 8 9 8 1 rfl cS (by omega)
  obtain ⟨y9, f9, -⟩ := fld hf 9 3 9 1 rfl cI (by omega)
  obtain ⟨y10, f10, -⟩ := fld hf 10 27 10 3 rfl cH (by omega)
  obtain ⟨y11, f11, -⟩ := fld hf 11 37 13 2 rfl cX (by omega)
  simp only [List.drop_zero, List.drop_succ_cons, List.take_succ_cons, List.take_zero] at f0 f1 f2 f3 f4 f5 f6 f7 f8 f9 f10 f11
  obtain ⟨k, g0, -, -⟩ := DataW.trod_int Try.underlying3 f0
  obtain ⟨lo, g1, -, z1⟩ := DataW.trod_string Try.underlying9 f1
  obtain ⟨hi, g2, -, z2⟩ := DataW.trod_string Try.underlying9 f2
  obtain ⟨un, g3, -⟩ := DataW.trod_bool Try.underlying4 f3
  obtain ⟨ri, g4, -, -⟩ := DataW.trod_int Try.underlying3 f4
  obtain ⟨ra, rc, rows, g5, sr, sm, sw⟩ := rowsL_of f5
  obtain ⟨ea, ec, ents, g6, se, em, ew⟩ := entsL_of f6
  obtain ⟨ky, g7, -, z7⟩ := DataW.trod_string Try.underlying9 f7
  obtain ⟨va, g8, -, z8⟩ := DataW.trod_string Try.underlying9 f8
  obtain ⟨pg, g9, -, -⟩ := DataW.trod_int Try.underlying3 f9
  obtain ⟨xh, nh, -, -, -, hh, hfh⟩ := DataW.trod_struct Try.underlying27 f10
  obtain ⟨xr, nr, -, -, -, hr, hfr⟩ := DataW.trod_struct Try.underlying37 f11
  have hh3 : xh.length = 3 := hh
  have hr2 : xr.length = 2 := hr
  obtain ⟨u0, h0, -⟩ := fld hfh 0 3 0 1 rfl cI (by omega)
  obtain ⟨u1, h1, -⟩ := fld hfh 1 3 1 1 rfl cI (by omega)
  obtain ⟨u2, h2, -⟩ := fld hfh 2 9 2 1 rfl cS (by omega)
  obtain ⟨v0, h3, -⟩ := fld hfr 0 3 0 1 rfl cI (by omega)
  obtain ⟨v1, h4, -⟩ := fld hfr 1 3 1 1 rfl cI (by omega)
  simp only [List.drop_zero, List.drop_succ_cons, List.take_succ_cons, List.take_zero] at h0 h1 h2 h3 h4
  obtain ⟨hp, g10, -, -⟩ := DataW.trod_int Try.underlying3 h0
  obtain ⟨hl', g11, -, -⟩ := DataW.trod_int Try.underlying3 h1
  obtain ⟨hk, g12, -, z12⟩ := DataW.trod_string Try.underlying9 h2
  obtain ⟨ns, g13, -, -⟩ := DataW.trod_int Try.underlying3 h3
  obtain ⟨ng, g14, -, -⟩ := DataW.trod_int Try.underlying3 h4
  simp only [List.cons.injEq, and_true] at g0 g1 g2 g3 g4 g5 g6 g7 g8 g9 g10 g11 g12 g13 g14
  subst g0 g1 g2 g3 g4 g5 g6 g7 g8 g9 g10 g11 g12 g13 g14
  exact ⟨⟨⟨k, lo, hi, un, ri, ky, va, pg, hp, hl', hk, ns, ng⟩, ra, rc, ea, ec, rows, ents⟩, rfl, fun hF => ⟨sr, se, ⟨z1, z2, z7, z8, z12⟩, sm, em,
    sw (hF.part Try.underlying39 (j := 5) rfl (by rw [List.getElem?_map, x5]; rfl)), ew (hF.part Try.underlying39 (j := 6) rfl (by rw [List.getElem?_map, x6]; rfl))⟩⟩
theorem pick_list {α : Type} {Q : Nat → α → Prop} : ∀ len : Nat, (∀ i, i < len → ∃ d, Q i d) → ∃ ds : List α, ds.length = len ∧ ∀ i d, ds[i]? = some d → Q i d
  | 0, _ => ⟨[], rfl, fun i d h => by simp at h⟩
  | len + 1, h => by
    obtain ⟨ds, h1, h2⟩ := pick_list len (fun i hi => h i (by omega))
    obtain ⟨d, hd⟩ := h len (by omega)
    refine ⟨ds ++ [d], by simp [h1], fun i e he => ?_⟩
    by_cases hi : i < len
    · rw [List.getElem?_append_left (by omega)] at he
      exact h2 i e he
    · rw [List.getElem?_append_right (by omega), h1] at he
      have : i - len = 0 := by
        have := (List.getElem?_eq_some_iff.1 he).1
        simp at this; omega
      rw [this] at he
      obtain rfl : d = e := by simpa using he
      rw [show i = len by omega]; exact hd
set_option maxRecDepth 100000 in
theorem chain_in {r : Reach} {b0 : Nat} {v : Value} {d : DataW H} {p : List MemPlace} (hv : Value.okWide Try.prog w r b0 22 v) (h : DataW.Trod enc Try.prog w base spare held 22 v d p) (hF : Fits 22 d) :
    ∃ ds : List RcD, ChW w v ds := by
  obtain ⟨fuel, hf⟩ := h
  obtain ⟨a0, len0, cap0, rfl⟩ := okWide_slice Try.underlying22 hv
  have c38 : Try.prog.cellsOf 39 = 15 := by kernel_rfl
  rcases Go.Deep.open_slice Try.underlying22 hf with ⟨hcs, -⟩ | ⟨a, len, cap, m, n, D, Pl, hcs, -, hl, hm, hmm, hxe, hx⟩
  · have e : Value.slice a0 len0 cap0 = .slice none 0 0 := by simpa [Value.cells] using hcs
    rw [e]
    exact ⟨[], SV.nil _ _, fun d h => by cases h⟩
  · have e : Value.slice a0 len0 cap0 = .slice (some a) len cap := by simpa [Value.cells] using hcs
    rw [e]
    have hle : len ≤ m := by rw [hmm]; split <;> omega
    have spot : 0 < len → a.spot = none := fun h0 => by
      obtain ⟨cs', h1, -⟩ := hx 0 (by omega)
      rw [c38] at h1
      obtain ⟨-, h2, h3⟩ := World.cells?_some h1
      obtain ⟨u, hu⟩ := get_some h2 (i := 0) (by decide)
      have := h3 0 (by decide)
      rw [hu] at this
      have := World.cell?_spot this
      simpa [Addr.add] using this
    obtain ⟨ds, h1, h2⟩ := pick_list (Q := fun i (d : RcD) => (∀ j u, d.cells[j]? = some u → w.cell? ⟨a.block, a.off + i * 15 + j, none⟩ = some u) ∧ (Fits 39 (D i) → RcW w d)) len (fun i hi => by
      obtain ⟨cs', g1, g2⟩ := hx i (by omega)
      rw [c38] at g1
      obtain ⟨-, g3, g4⟩ := World.cells?_some g1
      obtain ⟨d, rfl, sr⟩ := recL_of g2
      refine ⟨d, fun j u hu => ?_, sr⟩
      have hj : j < 15 := by have := (List.getElem?_eq_some_iff.1 hu).1; rw [g3] at this; exact this
      have := g4 j hj
      rw [hu] at this
      rw [← this]
      obtain ⟨b, off, sp⟩ := a
      have hs : sp = none := spot (by omega)
      subst hs
      rw [Go.WideShapes.add_plain, Go.WideShapes.add_plain])
    refine ⟨ds, ⟨some a, cap, by rw [h1], by rw [h1]; exact hl, hm, fun h => (by cases h), a.block, a.off, fun hne x hx => ?_, fun j u hu => ?_⟩, fun d hd => ?_⟩
    · rw [h1] at hne
      obtain rfl := Option.some.inj hx
      have hs := spot (by omega)
      obtain ⟨b, off, sp⟩ := a
      simp only at hs
      subst hs
      rfl
    · have hj : j < len * 15 := by
        have := (List.getElem?_eq_some_iff.1 hu).1
        rw [lRec.flat_len, h1] at this; exact this
      obtain ⟨d, hd⟩ := get_some h1 (i := j / 15) (by omega)
      have e := lRec.flat_at _ (j / 15) (j % 15) _ hd (Nat.mod_lt _ (by decide))
      rw [show j / 15 * lRec.sz + j % 15 = j from Nat.div_add_mod' j 15, hu] at e
      have := (h2 _ _ hd).1 (j % 15) u e.symm
      rw [← this, show a.off + j / 15 * 15 + j % 15 = a.off + j by omega]
    · obtain ⟨i, hi⟩ := List.mem_iff_getElem?.1 hd
      have hil : i < len := by rw [← h1]; exact (List.getElem?_eq_some_iff.1 hi).1
      refine (h2 i d hi).2 ?_
      rw [(Prod.mk.inj hxe).1] at hF
      exact hF.elem Try.underlying22 (List.mem_map.2 ⟨i, List.mem_range.2 hil, rfl⟩)
end
end Go.Proofs.Ytkkmfacngmginaa
