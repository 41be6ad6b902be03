/- The laws' own few, by a contract. -/
import Derived.Test.YtndlpmdgegodpaaDoorArCnt
import Derived.Deep.MidRow
import Derived.Lib.LazyBuf
namespace Go.Proofs.YtndlpmdgegodpaaDoor
open Go.RowKit

theorem there_new (w : World) (zs : Array Value) (ty : TypeId) : (w.alloc (.cells zs ty)).there w.heap.size 0 zs.size := fun j hj => by
  refine ⟨?_, World.frozen?_alloc_at _ _ _ _ rfl⟩
  rw [World.cell?_alloc_at _ _ _ _ rfl, Nat.zero_add]
  simp [hj]
/-- a struct laid into a new block of its own -/
theorem put_new (w : World) (zs : Array Value) (ty : TypeId) (cs : List Value) (hn : zs.size = cs.length) :
    Below w.heap.size w ((w.alloc (.cells zs ty)).setCells w.heap.size 0 cs) ∧ ((w.alloc (.cells zs ty)).setCells w.heap.size 0 cs).rangeAt w.heap.size 0 cs :=
  ⟨below_setCells (Nat.le_refl _) cs 0 _ (alloc_below0 w _), World.rangeAt_setCells_same _ _ _ _ (hn ▸ there_new w zs ty)⟩
def okD (d : DoD) : Bool := decide (d.rows.length ≤ 60) && decide (d.ents.length ≤ 60)
theorem okD_no {ds : List DoD} {d : DoD} (hd : d ∈ ds) (h : okD d = false) (sl : Int) : fewD sl ds = false := by
  unfold fewD
  have : ds.all okD = false := by
    rw [List.all_eq_false]
    exact ⟨d, hd, by rw [h]; simp⟩
  show (ds.all okD && _ && _) = false
  rw [this]; rfl
theorem okD_all {ds : List DoD} (h : ds.all okD = true) (sl : Int) : fewD sl ds = (decide (ds.length ≤ 60) && (decide (sl ≤ 60) || decide (4096 < sl))) := by
  show (ds.all okD && _ && _) = _
  rw [h, Bool.true_and]
set_option maxRecDepth 100000 in
set_option maxHeartbeats 4000000 in
theorem few_any (sl : Int) (v : Value) (ds : List DoD) (w : World) (hv : DosV w v ds) :
    Calls Tryd.prog 5 #[.int .i64 sl, v] w fun ev w' => ev = .returned (.bool (fewD sl ds)) ∧ Below w.heap.size w w' := by
  have V := Lib.hid hv
  obtain ⟨a, c, rfl, hlc, hcm⟩ := hv.1.lenform
  obtain ⟨n, hn⟩ : ∃ n, ds.length = n := ⟨_, rfl⟩
  have LN := Lib.hid hn
  rw [hn] at V hlc ⊢
  unfold maxLen at hcm
  clear hv hn
  go_enter Tryd.func5, Tryd.ntmps5
  go_wp2
  go_loopg [9] n (fun r i wz => ∃ k : Nat, k + r = n ∧ i = .int .i64 k ∧ (ds.take k).all okD = true ∧ Below w.heap.size w wz)
  case atStart => exact ⟨0, by omega, rfl, by simp, Below.refl _ _⟩
  case round =>
    obtain ⟨k, hk, rfl, hA, hB⟩ := hrel
    have A := Lib.hid (show (ds.take k).all okD = true ∧ Below w.heap.size w wr ∧ k + gk = n from ⟨hA, hB, hk⟩)
    clear hA hB
    by_cases hlt : k < n
    · obtain ⟨b, off, ha⟩ := V.out.1.addr (by rw [LN.out]; omega)
      subst ha
      obtain ⟨d, hx⟩ : ∃ d, ds[k]? = some d := ⟨_, List.getElem?_eq_getElem (by rw [LN.out]; exact hlt)⟩
      have hrng : wr.rangeAt b (off + k * 20) d.cells := fun j v hj => cell_step (V.out.1.cellAt (j := j) hx hj) A.out.2.1
      have M := Lib.hid (show d ∈ ds from List.mem_of_getElem? hx)
      have T := Lib.hid (show okD d = true → (ds.take (k + 1)).all okD = true from fun h => by
        have hk : k < ds.length := by rw [LN.out]; exact hlt
        rw [List.take_succ_eq_append_getElem hk, List.all_append, A.out.1, Bool.true_and]
        have : ds[k] = d := by rw [List.getElem?_eq_getElem hk] at hx; exact Option.some.inj hx
        rw [this]; simpa using h)
      clear hx
      go_wp2_with (first
        | (refine wpList_load_mid rfl 42 (.tmp 11) rfl b (off + k * 20) rfl d.cells _ hrng Tryd.underlying42 rfl (by kernel_rfl) ?_)
        | (refine wpList_store_mid rfl 42 (.tmp 6) (.tmp 12) rfl wr.heap.size 0 d.cells.toArray rfl rfl (there_new wr _ _) (by kernel_rfl) (all_oneCell_toArray d.cells_one) ?_
           generalize hw2 : World.setCells _ _ _ _ = w2
           have hq := Lib.hid (show Below wr.heap.size wr w2 ∧ w2.rangeAt wr.heap.size 0 d.cells by rw [← hw2]; exact put_new wr _ _ d.cells rfl)
           have z6 : w2.cell? ⟨wr.heap.size, 6, none⟩ = some (.slice d.ra d.rows.length d.rc) := hq.out.2 6 _ rfl
           have z7 : w2.cell? ⟨wr.heap.size, 7, none⟩ = some (.slice d.ea d.ents.length d.ec) := hq.out.2 7 _ rfl
           have BB := Lib.hid (A.out.2.1.trans (hq.out.1.mono A.out.2.1.size))
           clear hw2))
      all_goals first
        | (go_roundg (n - (k + 1))
           case measure => have := A.out.2.2; omega
           case rel => exact ⟨k + 1, by omega, by go_num, T.out (by unfold okD; simp; omega), BB.out⟩)
        | (go_ret
           exact ⟨retB (okD_no M.out (by unfold okD; simp; omega) sl).symm, BB.out⟩)
    · have O := Lib.hid (show fewD sl ds = (decide (n ≤ 60) && (decide (sl ≤ 60) || decide (4096 < sl))) by
        have h := A.out.1
        rw [List.take_of_length_le (by rw [LN.out]; omega)] at h
        rw [okD_all h, LN.out])
      by_cases h1 : n ≤ 60
      · by_cases h2 : sl ≤ 60
        · have O2 := Lib.hid (show fewD sl ds = true by rw [O.out, decide_eq_true h1, decide_eq_true h2]; rfl)
          go_wp2
          go_ret
          exact ⟨retB (by rw [O2.out]), A.out.2.1⟩
        · by_cases h3 : 4096 < sl
          · have O2 := Lib.hid (show fewD sl ds = true by rw [O.out, decide_eq_true h1, decide_eq_true h3, Bool.or_true]; rfl)
            go_wp2
            go_ret
            exact ⟨retB (by rw [O2.out]), A.out.2.1⟩
          · have O2 := Lib.hid (show fewD sl ds = false by rw [O.out, decide_eq_false h2, decide_eq_false h3, Bool.or_false, Bool.and_false])
            go_wp2
            go_ret
            exact ⟨retB (by rw [O2.out]), A.out.2.1⟩
      · have O2 := Lib.hid (show fewD sl ds = false by rw [O.out, decide_eq_false h1]; rfl)
        go_wp2
        go_ret
        exact ⟨retB (by rw [O2.out]), A.out.2.1⟩
end Go.Proofs.YtndlpmdgegodpaaDoor
