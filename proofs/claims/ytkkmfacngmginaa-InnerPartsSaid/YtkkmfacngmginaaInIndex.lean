/- Package inner's own functions (layer 8), by contracts: foreign, over slices.ContainsFunc and slices.IndexFunc. -/
import Derived.Test.YtkkmfacngmginaaInEnd
namespace Go.Proofs.Ytkkmfacngmginaa
open Go.RowKit

set_option maxRecDepth 100000 in
set_option maxHeartbeats 4000000 in
theorem foreign_any (sc : Sc) (rows : List Rw) (ents : List En) (ra : Option Addr) (rn rc : Nat) (ea : Option Addr) (en ec : Nat) (w : World) :
    Calls Try.prog 44 #[recVal sc (.slice ra rn rc) (.slice ea en ec)] w fun ev w' => ev = .returned (.bool (!innerB ⟨sc, rows, ents⟩)) ∧ Below w.heap.size w w' := by
  obtain ⟨kind, low, high, unb, right, key, value, page, hp, hl, hk, ns, ng⟩ := sc
  have R := Lib.hid (show innerB ⟨⟨kind, low, high, unb, right, key, value, page, hp, hl, hk, ns, ng⟩, rows, ents⟩ = (decide (7 ≤ kind) && decide (kind ≤ 11)) from rfl)
  have k0 := (HB.new (recObj ⟨kind, low, high, unb, right, key, value, page, hp, hl, hk, ns, ng⟩ (.slice ra rn rc) (.slice ea en ec)) w).cell 0
  simp at k0
  have B := Lib.hid (alloc_below0 w (recObj ⟨kind, low, high, unb, right, key, value, page, hp, hl, hk, ns, ng⟩ (.slice ra rn rc) (.slice ea en ec)))
  unfold recVal
  simp only [recObj] at k0 B ⊢
  by_cases h7 : kind < 7
  · have P := Lib.hid (show innerB _ = false from R.out.trans (by rw [decide_eq_false (show ¬ 7 ≤ kind by omega)]; rfl))
    go_enter Try.func44, Try.ntmps44
    go_wp2
    go_ret
    exact ⟨by rw [P.out]; rfl, B.out⟩
  · by_cases h11 : 11 < kind
    · have P := Lib.hid (show innerB _ = false from R.out.trans (by rw [decide_eq_false (show ¬ kind ≤ 11 by omega), Bool.and_false]))
      go_enter Try.func44, Try.ntmps44
      go_wp2
      go_ret
      exact ⟨by rw [P.out]; rfl, B.out⟩
    · have P := Lib.hid (show innerB _ = true from R.out.trans (by rw [decide_eq_true (show 7 ≤ kind by omega), decide_eq_true (show kind ≤ 11 by omega)]; rfl))
      go_enter Try.func44, Try.ntmps44
      go_wp2
      go_ret
      exact ⟨by rw [P.out]; rfl, B.out⟩
def foreignF : Value := .func (.func 44) #[] #[]
set_option maxRecDepth 100000 in
set_option maxHeartbeats 4000000 in
theorem indexF_any (u : Value) (ds : List RcD) (w : World) (hv : SV lRec w u ds) (hl : ds.length ≤ 1000) :
    Calls Try.prog 79 #[u, foreignF] w fun ev w' => ∃ i : Int, ev = .returned (.int .i64 i) ∧ decide (0 ≤ i) = !(readC ds).all innerB ∧ Below w.heap.size w w' := by
  obtain ⟨a, c, rfl, hlc, hcm⟩ := hv.lenform
  obtain ⟨n, hn⟩ : ∃ n, ds.length = n := ⟨_, rfl⟩
  have LN := Lib.hid hn
  rw [hn] at hv hlc hl ⊢
  have V := Lib.hid hv
  unfold maxLen at hcm
  clear hv hn
  unfold foreignF
  go_enter Try.func79, Try.ntmps79
  go_wp2
  go_loopg [8] n (fun m vi wr => ∃ k : Nat, k + m = n ∧ vi = .int .i64 k ∧ ((readC ds).take k).all innerB = true ∧ Below w.heap.size w wr)
  case atStart => exact ⟨0, by omega, rfl, rfl, Below.refl _ _⟩
  case round =>
    obtain ⟨k, hk, rfl, hf, hB⟩ := hrel
    have A := Lib.hid (show ((readC ds).take k).all innerB = true ∧ Below w.heap.size w wr ∧ k + gk = n from ⟨hf, hB, hk⟩)
    clear hf hB
    by_cases hlt : k < n
    · obtain ⟨b, off, ha⟩ := V.out.addr (by rw [LN.out]; omega)
      subst ha
      obtain ⟨d, hx⟩ : ∃ d, ds[k]? = some d := ⟨_, List.getElem?_eq_getElem (by rw [LN.out]; omega)⟩
      have hrng : wr.rangeAt b (off + k * 15) d.cells := fun j v hj => cell_step (V.out.cellAt (j := j) hx hj) A.out.2.1
      have hr : (readC ds)[k]? = some d.d := by unfold readC; rw [List.getElem?_map, hx]; rfl
      have T := Lib.hid (show ((readC ds).take (k + 1)).all innerB = innerB d.d ∧ (innerB d.d = false → (readC ds).all innerB = false) from by
        have hk' := (List.getElem?_eq_some_iff.1 hr).1
        have e : (readC ds)[k] = d.d := (List.getElem?_eq_some_iff.1 hr).2
        refine ⟨by rw [List.take_succ_eq_append_getElem hk', List.all_append, A.out.1, e]; simp, fun h => ?_⟩
        cases hq : (readC ds).all innerB with
        | false => rfl
        | true =>
          rw [List.all_eq_true.1 hq d.d (List.mem_of_getElem? hr)] at h
          cases h)
      obtain ⟨sc, ra, rc, ea, ec, rows, ents⟩ := d
      have j1 : (0 : Int) ≤ (k : Int) := by omega
      have j2 : (k : Int) < (n : Int) := by omega
      clear hx hr
      cases hi : innerB ⟨sc, rows, ents⟩ with
      | true =>
        have HI := Lib.hid hi
        have G := Lib.hid (show ((readC ds).take (k + 1)).all innerB = true from T.out.1.trans hi)
        clear hi
        go_wp2_with (refine wpList_load_mid rfl 39 (.tmp 14) rfl b (off + k * 15) rfl (RcD.cells ⟨sc, ra, rc, ea, ec, rows, ents⟩) _ hrng Try.underlying39 rfl (by kernel_rfl) ?_)
        refine (foreign_any sc rows ents ra rows.length rc ea ents.length ec wr).mono ?_
        rintro ev w2 ⟨rfl, hs⟩
        rw [HI.out]
        have B2 := Lib.hid (A.out.2.1.trans (hs.mono A.out.2.1.size))
        clear hs hrng
        go_wp2
        go_roundg (n - (k + 1))
        case measure => have := A.out.2.2; omega
        case rel => exact ⟨k + 1, by omega, by go_num, G.out, B2.out⟩
      | false =>
        have HI := Lib.hid hi
        have G := Lib.hid (T.out.2 hi)
        clear hi
        go_wp2_with (refine wpList_load_mid rfl 39 (.tmp 14) rfl b (off + k * 15) rfl (RcD.cells ⟨sc, ra, rc, ea, ec, rows, ents⟩) _ hrng Try.underlying39 rfl (by kernel_rfl) ?_)
        refine (foreign_any sc rows ents ra rows.length rc ea ents.length ec wr).mono ?_
        rintro ev w2 ⟨rfl, hs⟩
        rw [HI.out]
        have B2 := Lib.hid (A.out.2.1.trans (hs.mono A.out.2.1.size))
        clear hs hrng
        go_wp2
        go_ret
        exact ⟨(k : Int), rfl, by rw [G.out, decide_eq_true (Int.natCast_nonneg k)]; rfl, B2.out⟩
    · have G := Lib.hid (show (readC ds).all innerB = true by
        have h := A.out.1
        rwa [List.take_of_length_le (by have := LN.out; simp only [readC, List.length_map]; omega)] at h)
      go_wp2
      go_ret
      exact ⟨-1, rfl, by rw [G.out]; rfl, A.out.2.1⟩
set_option maxRecDepth 100000 in
theorem containsF_any (u : Value) (ds : List RcD) (w : World) (hv : SV lRec w u ds) (hl : ds.length ≤ 1000) :
    Calls Try.prog 43 #[u, foreignF] w fun ev w' => ev = .returned (.bool (!(readC ds).all innerB)) ∧ Below w.heap.size w w' := by
  obtain ⟨a, c, rfl, -, -⟩ := hv.lenform
  have V := Lib.hid hv
  clear hv
  unfold foreignF
  go_enter Try.func43, Try.ntmps43
  go_wp2_with fail
  refine (indexF_any _ ds _ V.out hl).mono ?_
  rintro ev w1 ⟨i, rfl, hi, hs⟩
  have B := Lib.hid hs
  have HI := Lib.hid hi
  clear hs hi
  go_wp2
  go_ret
  exact ⟨by rw [← HI.out]; rfl, B.out⟩
end Go.Proofs.Ytkkmfacngmginaa
