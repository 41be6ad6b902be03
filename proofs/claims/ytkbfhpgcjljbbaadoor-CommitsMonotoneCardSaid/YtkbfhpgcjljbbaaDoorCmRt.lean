/- The document's own table (layer 16): its value; what it reads as. -/
import Derived.Test.YtkbfhpgcjljbbaaDoorCmC
import Derived.Test.YtkbfhpgcjljbbaaDoorCmRef
namespace Go.Proofs.YtkbfhpgcjljbbaaDoor
set_option linter.unusedVariables false
set_option linter.unusedSimpArgs false
open Go.RowKit

def xs1 : List Wr := [(⟨#[97]⟩, ⟨#[49]⟩, false)]
def xs2 : List Wr := [(⟨#[98]⟩, ⟨#[]⟩, false)]
def tb0 : Tb := Tb.new (2 : Int).toNat 9
def tb1 : Tb := tb0.app 0 xs1
def tb2 : Tb := tb1.app 0 xs2
theorem xs1_small : SmallW xs1 := fun x hx => by
  rw [List.mem_singleton.1 (show x ∈ [_] from hx)]; exact ⟨by decide, by decide⟩
theorem xs2_small : SmallW xs2 := fun x hx => by
  rw [List.mem_singleton.1 (show x ∈ [_] from hx)]; exact ⟨by decide, by decide⟩
theorem aw1 : two (tb0.appB 0 xs1) (tb0.appE 0 xs1) = .tuple #[.bool true, .nilIface] := by
  have h1 : tb0.appB 0 xs1 = true := by decide +kernel
  have h2 : tb0.appE 0 xs1 = 0 := by decide +kernel
  rw [h1, h2]; rfl
theorem aw2 : two (tb1.appB 0 xs2) (tb1.appE 0 xs2) = .tuple #[.bool false, .nilIface] := by
  have h1 : tb1.appB 0 xs2 = false := by decide +kernel
  have h2 : tb1.appE 0 xs2 = 0 := by decide +kernel
  rw [h1, h2]; rfl
theorem aw3 : tb2.atE 1 = 0 ∧ tb2.atL 1 = xs1 ∧ tb2.all.length = 1 ∧ tb2.count = 1 ∧ tb0.all.length = 0 ∧ tb1.all.length = 1 := by decide +kernel
theorem off_step {w1 : World} {S S2 : Nat → Prop} {b : Nat} (hb : ¬ S b) (hlt : b < w1.heap.size) (hS : ∀ k, S2 k → S k ∨ w1.heap.size ≤ k) : ¬ S2 b := fun h => (hS b h).elim hb (fun h => Nat.lt_irrefl b (Nat.lt_of_lt_of_le hlt h))
/-- behind a call that changes a table: what began the law is as it was -/
theorem mut_step {n0 : Nat} {w0 w1 w2 : World} {S S2 : Nat → Prop} (G : ∀ k, S k → n0 ≤ k) (B : Below n0 w0 w1) (hn : n0 ≤ w1.heap.size) (hk : Kept (Mt w1 S) w1 w2) (hS : ∀ k, S2 k → S k ∨ w1.heap.size ≤ k) :
    Below n0 w0 w2 ∧ (∀ k, S2 k → n0 ≤ k) ∧ n0 ≤ w2.heap.size :=
  ⟨B.trans (hk.mt.below G hn), fun k h => (hS k h).elim (G k) (fun h => Nat.le_trans hn h), Nat.le_trans hn hk.size⟩
set_option maxRecDepth 100000 in
set_option maxHeartbeats 4000000 in
theorem awake16 (C : CmT) (w : World) : Calls Tryd.prog 7 #[] w fun ev w' => ev = .returned (.bool true) ∧ Below w.heap.size w w' := by
  go_enter Tryd.func7, Tryd.ntmps7
  go_wp2_with fail
  refine (C.new 2 9 _ (by decide)).mono ?_
  rintro ev w1 ⟨a, S1, rfl, hI, hS, hs⟩
  have b1 := alloc_below0 w1 (.cells #[.string ⟨#[97]⟩, .string ⟨#[49]⟩, .bool false] 49)
  have M1 := Lib.hid (show Below w.heap.size w (w1.alloc (.cells #[.string ⟨#[97]⟩, .string ⟨#[49]⟩, .bool false] 49)) ∧ (∀ k, S1 k → w.heap.size ≤ k) ∧ w.heap.size ≤ (w1.alloc (.cells #[.string ⟨#[97]⟩, .string ⟨#[49]⟩, .bool false] 49)).heap.size from ⟨hs.trans (b1.mono hs.size), hS, Nat.le_trans hs.size b1.size⟩)
  have I1 := Lib.hid (C.step hI b1)
  have X1 := Lib.hid (show WrV lPw (w1.alloc (.cells #[.string ⟨#[97]⟩, .string ⟨#[49]⟩, .bool false] 49)) (.slice (some ⟨w1.heap.size, 0, none⟩) 1 1) xs1 from ⟨(OwnS.lit lPw w1.heap.size w1 w1.heap.size rfl xs1 (Nat.le_refl _) (by decide)).sv, xs1_small⟩)
  clear hI hS hs b1
  go_wp2_with fail
  refine (C.append a S1 tb0 0 _ xs1 _ I1.out (by decide) X1.out (by decide)).mono ?_
  rintro ev w2 ⟨S2, rfl, hI, hk, hS⟩
  rw [aw1]
  have m2 := mut_step M1.out.2.1 M1.out.1 M1.out.2.2 hk hS
  have b2 := alloc_below0 w2 (.cells #[.string ⟨#[98]⟩, .string ⟨#[]⟩, .bool false] 49)
  have M2 := Lib.hid (show Below w.heap.size w (w2.alloc (.cells #[.string ⟨#[98]⟩, .string ⟨#[]⟩, .bool false] 49)) ∧ (∀ k, S2 k → w.heap.size ≤ k) ∧ w.heap.size ≤ (w2.alloc (.cells #[.string ⟨#[98]⟩, .string ⟨#[]⟩, .bool false] 49)).heap.size from ⟨m2.1.trans (b2.mono m2.2.2), m2.2.1, Nat.le_trans m2.2.2 b2.size⟩)
  have I2 := Lib.hid (C.step hI b2)
  have X2 := Lib.hid (show WrV lPw (w2.alloc (.cells #[.string ⟨#[98]⟩, .string ⟨#[]⟩, .bool false] 49)) (.slice (some ⟨w2.heap.size, 0, none⟩) 1 1) xs2 from ⟨(OwnS.lit lPw w2.heap.size w2 w2.heap.size rfl xs2 (Nat.le_refl _) (by decide)).sv, xs2_small⟩)
  clear hI hS hk b2 m2 M1 I1 X1
  go_wp2_with fail
  refine (C.append a S2 tb1 0 _ xs2 _ I2.out (by decide) X2.out (by decide)).mono ?_
  rintro ev w3 ⟨S3, rfl, hI, hk, hS⟩
  rw [aw2]
  have M3 := Lib.hid (mut_step M2.out.2.1 M2.out.1 M2.out.2.2 hk hS)
  have I3 := Lib.hid (show C.Inv w3 a S3 tb2 from hI)
  clear hI hS hk M2 I2 X2
  go_wp2_with fail
  refine (C.at_ a S3 tb2 1 _ I3.out (by rw [aw3.2.2.1]; decide)).mono ?_
  rintro ev w4 ⟨v, rfl, hv, hs⟩
  rw [aw3.2.1] at hv
  rw [aw3.1]
  obtain ⟨la, lc, rfl, -, -⟩ := hv.lenN (n := 1) rfl
  have M4 := Lib.hid (show Below w.heap.size w w4 ∧ w.heap.size ≤ w4.heap.size from ⟨M3.out.1.trans (hs.mono M3.out.2.2), Nat.le_trans M3.out.2.2 hs.size⟩)
  have I4 := Lib.hid (C.step I3.out hs)
  rw [show errV 0 = .nilIface from rfl]
  clear hv hs M3 I3
  go_wp2_with fail
  refine (C.last a S3 tb2 _ I4.out).mono ?_
  rintro ev w5 ⟨rfl, hs⟩
  rw [aw3.2.2.1]
  have M5 := Lib.hid (show Below w.heap.size w w5 ∧ w.heap.size ≤ w5.heap.size from ⟨M4.out.1.trans (hs.mono M4.out.2), Nat.le_trans M4.out.2 hs.size⟩)
  have I5 := Lib.hid (C.step I4.out hs)
  clear hs M4 I4
  go_wp2_with fail
  refine (C.count a S3 tb2 _ I5.out (by rw [aw3.2.2.1]; decide)).mono ?_
  rintro ev w6 ⟨rfl, hs⟩
  rw [aw3.2.2.2.1]
  have M6 := Lib.hid (M5.out.1.trans (hs.mono M5.out.2))
  clear hs M5 I5
  go_wp2
  go_ret
  exact ⟨rfl, M6.out⟩

set_option linter.unusedVariables false
set_option linter.unusedSimpArgs false
open Go.RowKit

set_option maxRecDepth 100000 in
set_option maxHeartbeats 4000000 in
theorem given_any (v : Value) (xs : List Wr) (w : World) (hv : WrV lDw w v xs) (hl : xs.length ≤ 1000) :
    Calls Tryd.prog 19 #[v] w fun ev w' => ∃ v', ev = .returned v' ∧ OwnS lPw w.heap.size w' v' xs ∧ Below w.heap.size w w' := by
  obtain ⟨a, cap, rfl, hlc, hcm⟩ := hv.1.lenform
  obtain ⟨n, hn⟩ : ∃ n, xs.length = n := ⟨_, rfl⟩
  rw [hn] at hv hlc hl ⊢
  have V := Lib.hid hv
  have LN := Lib.hid hn
  clear hv hn
  go_enter Tryd.func19, Tryd.ntmps19
  go_wp2
  go_loopg [3, 8] n (fun c s i wr => ∃ k : Nat, k + c = n ∧ i = .int .i64 k ∧ OwnS lPw w.heap.size wr s (xs.take k) ∧ Below w.heap.size w wr)
  case atStart => exact ⟨0, by omega, rfl, OwnS.nil _ _ _, Below.refl _ _⟩
  case round =>
    obtain ⟨k, hk, rfl, hO, hB⟩ := hrel
    have A := Lib.hid (show Below w.heap.size w wr ∧ k + gk = n from ⟨hB, hk⟩)
    have O := Lib.hid hO
    clear hB hO
    by_cases hlt : k < n
    · obtain ⟨x, hx⟩ : ∃ x, xs[k]? = some x := ⟨_, List.getElem?_eq_getElem (by rw [LN.out]; exact hlt)⟩
      obtain ⟨b, off, ha⟩ := V.out.1.addr (by rw [LN.out]; omega)
      subst ha
      obtain ⟨x0, x1, x2⟩ := (V.out.below A.out.1).cells hx
      have T := Lib.hid (wtake_at1 hx)
      have j3 : (0 : Int) ≤ (k : Int) := by omega
      have j4 : (k : Int) < (n : Int) := by omega
      have ba := alloc_below0 wr (.cells #[.string x.1, .string x.2.1, .bool x.2.2] 79)
      have bb := alloc_below0 (wr.alloc (.cells #[.string x.1, .string x.2.1, .bool x.2.2] 79)) (.cells #[.string x.1, .string x.2.1, .bool x.2.2] 49)
      have BA := Lib.hid (A.out.1.trans ((ba.trans (bb.mono ba.size)).mono A.out.1.size))
      have O2 := Lib.hid ((O.out.below ba).below bb)
      have SR := Lib.hid (OwnS.lit lPw w.heap.size (wr.alloc (.cells #[.string x.1, .string x.2.1, .bool x.2.2] 79)) (wr.heap.size + 1) (by simp) [x] (by have := A.out.1.size; omega) (by simp [maxLen])).sv
      have LT := Lib.hid (show (xs.take k).length + 1 ≤ 100000 by rw [List.length_take]; omega)
      clear hx ba bb
      go_wp2_with (at_builtin; go_must (refine wpList_appS lPw 50 Tryd.underlying50 lPw_known (by decide) (by decide) rfl (.tmp 12) (.tmp 20) rfl w.heap.size rfl rfl O2.out SR LT.out BA.out.size ?_; intro v2 w2 ho2 hg2))
      have F := Lib.hid (show OwnS lPw w.heap.size w2 v2 (xs.take (k + 1)) ∧ Below w.heap.size w w2 from ⟨by rw [T.out]; exact ho2, BA.out.trans ((Kept.of_grown hg2).below (fun j hj => (O2.out.bounds j hj.symm).1) BA.out.size)⟩)
      clear ho2 hg2
      go_wp2
      go_roundg (n - (k + 1))
      case measure => have := A.out.2; omega
      case rel => exact ⟨k + 1, by omega, by go_num, F.out.1, F.out.2⟩
    · obtain rfl : k = n := by omega
      have F := Lib.hid (show xs.take k = xs from List.take_of_length_le (Nat.le_of_eq LN.out))
      go_wp2
      go_ret
      exact ⟨_, rfl, by rw [F.out] at O; exact O.out, A.out.1⟩

set_option linter.unusedVariables false
set_option linter.unusedSimpArgs false
open Go.RowKit

def lInt : Lay Int := ⟨3, 1, fun r => [.int .i64 r], fun _ => rfl, fun x u h => by simp at h; subst h; rfl⟩
def lBool : Lay Bool := ⟨4, 1, fun r => [.bool r], fun _ => rfl, fun x u h => by simp at h; subst h; rfl⟩
def lDs : Lay Sl := ⟨34, 1, fun s => [s.v], fun _ => rfl, fun x u h => by simp at h; subst h; rfl⟩
theorem intInfo : (Tryd.prog.info? 3).map (fun i => (i.zero, i.size, i.bytes)) = some (some (.int .i64 0), 1, 8) := by kernel_rfl
theorem boolInfo : (Tryd.prog.info? 4).map (fun i => (i.zero, i.size, i.bytes)) = some (some (.bool false), 1, 1) := by kernel_rfl
theorem slInfo : (Tryd.prog.info? 34).map (fun i => (i.zero, i.size, i.bytes)) = some (some (.slice none 0 0), 1, 24) := by kernel_rfl
theorem lInt_known : lInt.known 8 := known_of intInfo rfl rfl
theorem lBool_known : lBool.known 1 := known_of boolInfo rfl rfl
theorem lDs_known : lDs.known 24 := known_of slInfo rfl rfl
/-- the document's table as a value: numbers and three slices -/
def rtV (t : Tb) (va vd vm : Value) : Value := .agg #[.int .i64 t.limit, .int .i64 (t.low : Int), va, vd, vm, .int .i64 t.holder]
def rtO (t : Tb) (va vd vm : Value) : Obj := .cells #[.int .i64 t.limit, .int .i64 (t.low : Int), va, vd, vm, .int .i64 t.holder] 31
/-- a slice of slices of the call's own; the slices in it read, at the first world, as these lists -/
def AllO (w0 w : World) (v : Value) (ps : List (List Wr)) : Prop := ∃ ss : List Sl, OwnS lDs 0 w v ss ∧ ss.length = ps.length ∧ ∀ (i : Nat) (s : Sl) (p : List Wr), ss[i]? = some s → ps[i]? = some p → WrV lDw w0 s.v p
theorem AllO.below {w0 w w' : World} {v : Value} {ps : List (List Wr)} (h : AllO w0 w v ps) (hb : Below w.heap.size w w') : AllO w0 w' v ps :=
  let ⟨ss, h1, h2, h3⟩ := h
  ⟨ss, h1.below hb, h2, h3⟩
theorem AllO.lenN {w0 w : World} {v : Value} {ps : List (List Wr)} {n : Nat} (h : AllO w0 w v ps) (hn : ps.length = n) : ∃ a cap, v = .slice a n cap ∧ n ≤ cap ∧ cap ≤ maxLen :=
  let ⟨_, h1, h2, _⟩ := h
  h1.lenN (h2.trans hn)
/-- what the document's table reads as -/
structure RtV (w0 w : World) (t : Tb) (va vd vm : Value) : Prop where
  all : AllO w0 w va t.all
  drp : OwnS lBool 0 w vd t.dropped
  mks : OwnS lInt 0 w vm t.marks
theorem RtV.below {w0 w w' : World} {t : Tb} {va vd vm : Value} (h : RtV w0 w t va vd vm) (hb : Below w.heap.size w w') : RtV w0 w' t va vd vm := ⟨h.all.below hb, h.drp.below hb, h.mks.below hb⟩
/-- the blocks of its slices -/
def rtB (va vd vm : Value) (k : Nat) : Prop := va.ownBlock = some k ∨ vd.ownBlock = some k ∨ vm.ownBlock = some k
theorem results_cellTT {fn : Func} {p u v : Tmp} {ty : TypeId} (h : fn.results = #[.cell p ty, .tmp u, .tmp v]) (tmps : Array Value) (w : World) (b : Nat) (cs : List Value) (d : TypeDesc) (ev fv : Value) (hp : tmps.getD p undef = .pointer (some ⟨b, 0, none⟩)) (hev : tmps.getD u undef = ev) (hfv : tmps.getD v undef = fv) (hc : w.rangeAt b 0 cs)
    (hu : Tryd.prog.underlying ty = some d) (hd : d.isRow = true) (hi : (Tryd.prog.info? ty).map (·.size) = some cs.length) : (results fn tmps).run Tryd.prog w = .ok (.tuple #[.agg cs.toArray, ev, fv]) w := by
  have hl := run_loadVar_mid w b 0 ty cs d hc hu hd hi
  have hp' : tmps[p]?.getD undef = .pointer (some ⟨b, 0, none⟩) := by simpa using hp
  have hev' : tmps[u]?.getD undef = ev := by simpa using hev
  have hfv' : tmps[v]?.getD undef = fv := by simpa using hfv
  simp only [results, h]
  simp [hp', hev', hfv', asAddr, hl]
theorem rng6 {w : World} {b : Nat} {T : TypeId} {u0 u1 u2 u3 u4 u5 : Value} (h : w.heap[b]? = some (.cells #[u0, u1, u2, u3, u4, u5] T (0, 0))) : w.rangeAt b 0 [u0, u1, u2, u3, u4, u5] := fun j u hj => by
  rw [Nat.zero_add, blk_cell h, ← hj, ← Array.getElem?_toList]
set_option maxRecDepth 100000 in
set_option maxHeartbeats 4000000 in
theorem rf_is (t : Tb) (va vd vm : Value) (k : Int) (w0 w : World) (h : RtV w0 w t va vd vm) :
    Calls Tryd.prog 45 #[rtV t va vd vm, .int .i64 k] w fun ev w' => ev = .returned (.bool (t.has k)) ∧ Below w.heap.size w w' := by
  obtain ⟨m, hm⟩ : ∃ m, t.marks.length = m := ⟨_, rfl⟩
  obtain ⟨ma, mc, rfl, -, mcm⟩ := h.mks.lenN hm
  have B := Lib.hid (alloc_below0 w (rtO t va vd (.slice ma m mc)))
  have E := Lib.hid (show t.has k = (decide (0 ≤ k) && decide (k < (m : Int))) by unfold Tb.has; rw [hm])
  unfold rtV
  unfold rtO at B
  unfold maxLen at mcm
  clear h hm
  rw [E.out]
  by_cases h1 : 0 ≤ k
  · go_enter Tryd.func45, Tryd.ntmps45
    go_wp2
    go_ret
    exact ⟨by rw [decide_eq_true h1]; rfl, B.out⟩
  · go_enter Tryd.func45, Tryd.ntmps45
    go_wp2
    go_ret
    exact ⟨by rw [decide_eq_false (show ¬ 0 ≤ k by omega)]; rfl, B.out⟩
end Go.Proofs.YtkbfhpgcjljbbaaDoor
