/- What package commits owes (layer 16), as bundles of contracts over a plain model of a table. -/
import Derived.Test.YtkbfhpgcjljbbaaDoorCmMem
namespace Go.Proofs.YtkbfhpgcjljbbaaDoor
set_option linter.unusedVariables false
set_option linter.unusedSimpArgs false
open Go.RowKit

/-- a table: all commits, which are dropped, the base, marks, and who has the token -/
structure Tb where
  limit : Int
  low : Nat
  all : List (List Wr)
  dropped : List Bool
  marks : List Int
  holder : Int
def errV (e : Int) : Value := if e = 0 then .nilIface else .iface 58 (.int .i64 e)
def okT (n l : Int) : Bool := decide (1 ≤ n) && decide (n ≤ 64) && decide (1 ≤ l) && decide (l ≤ 1099511627776)
namespace Tb
def new (n : Nat) (l : Int) : Tb := ⟨l, 0, [], [], List.replicate n (-1), -1⟩
def atE (t : Tb) (n : Int) : Int := if n < 1 ∨ (t.all.length : Int) < n then 1 else if t.dropped.getD (n - 1).toNat false then 6 else 0
def atL (t : Tb) (n : Int) : List Wr := if t.atE n = 0 then t.all.getD (n - 1).toNat [] else []
def may (xs : List Wr) : Bool := !xs.isEmpty && wRight xs
def appE (t : Tb) (last : Int) (xs : List Wr) : Int := if may xs = false then 1 else if last ≠ (t.all.length : Int) then 0 else if (t.all.length : Int) = t.limit then 5 else 0
def appB (t : Tb) (last : Int) (xs : List Wr) : Bool := may xs && decide (last = (t.all.length : Int)) && !decide ((t.all.length : Int) = t.limit)
def app (t : Tb) (last : Int) (xs : List Wr) : Tb := if t.appB last xs then { t with all := t.all ++ [xs], dropped := t.dropped ++ [false] } else t
def advE (t : Tb) : Int := if t.low = t.all.length then 13 else 0
def advB (t : Tb) (b : Int) : Bool := !decide (t.low = t.all.length) && decide (b = (t.low : Int))
def adv (t : Tb) (b : Int) : Tb := if t.advB b then { t with low := t.low + 1 } else t
def has (t : Tb) (k : Int) : Bool := decide (0 ≤ k) && decide (k < (t.marks.length : Int))
def hasE (t : Tb) (k : Int) : Int := if t.has k then 0 else 1
def mark (t : Tb) (k n : Int) : Tb := if t.has k then { t with marks := t.marks.set k.toNat (max n (-1)) } else t
def marked (t : Tb) (k : Int) : Int := if t.has k then t.marks.getD k.toNat (-1) else -1
def grabB (t : Tb) (k : Int) : Bool := t.has k && decide (t.holder < 0)
def grab (t : Tb) (k : Int) : Tb := if t.grabB k then { t with holder := k } else t
def yieldB (t : Tb) (k : Int) : Bool := t.has k && decide (t.holder = k)
def yield_ (t : Tb) (k : Int) : Tb := if t.yieldB k then { t with holder := -1 } else t
/-- which are dropped behind a Trim, from number i on -/
def cut (n : Int) (low : Nat) : Nat → List Bool → List Bool
  | _, [] => []
  | i, b :: bs => (b || (decide ((i : Int) < n) && decide (i < low))) :: cut n low (i + 1) bs
def cutN (n : Int) (low : Nat) : Nat → List Bool → Nat
  | _, [] => 0
  | i, b :: bs => (if !b && (decide ((i : Int) < n) && decide (i < low)) then 1 else 0) + cutN n low (i + 1) bs
def trim (t : Tb) (n : Int) : Tb := { t with dropped := cut n t.low 0 t.dropped }
def trimN (t : Tb) (n : Int) : Nat := cutN n t.low 0 t.dropped
def countB : List Bool → Nat
  | [] => 0
  | b :: bs => (if b then 0 else 1) + countB bs
def count (t : Tb) : Nat := countB t.dropped
/-- what every table keeps -/
structure ok (t : Tb) : Prop where
  len : t.dropped.length = t.all.length
  low : t.low ≤ t.all.length
  lim : (t.all.length : Int) ≤ t.limit
  max : t.limit ≤ 1099511627776
  marks : 1 ≤ t.marks.length ∧ t.marks.length ≤ 64
  mark : ∀ m ∈ t.marks, -1 ≤ m ∧ m ≤ 9223372036854775807
  small : ∀ p ∈ t.all, SmallW p ∧ p.length ≤ 1000
  holder : -1 ≤ t.holder ∧ t.holder < t.marks.length
theorem cut_len (n : Int) (low : Nat) : ∀ (i : Nat) (l : List Bool), (cut n low i l).length = l.length
  | _, [] => rfl
  | i, b :: bs => by simp [cut, cut_len n low (i + 1) bs]
theorem new_ok {n l : Int} (h : okT n l = true) : (new n.toNat l).ok := by
  unfold okT at h
  simp only [Bool.and_eq_true, decide_eq_true_eq] at h
  obtain ⟨⟨⟨h1, h2⟩, h3⟩, h4⟩ := h
  refine ⟨rfl, Nat.le_refl _, ?_, h4, ?_, fun m hm => ?_, fun p hp => (by cases hp), ?_⟩
  · show ((0 : Nat) : Int) ≤ l
    omega
  · show 1 ≤ (List.replicate n.toNat (-1 : Int)).length ∧ (List.replicate n.toNat (-1 : Int)).length ≤ 64
    rw [List.length_replicate]; omega
  · have := List.eq_of_mem_replicate (show m ∈ List.replicate n.toNat (-1 : Int) from hm)
    omega
  · show -1 ≤ (-1 : Int) ∧ (-1 : Int) < ((List.replicate n.toNat (-1 : Int)).length : Int)
    rw [List.length_replicate]; omega
theorem app_ok {t : Tb} (h : t.ok) (last : Int) {xs : List Wr} (hx : SmallW xs ∧ xs.length ≤ 1000) : (t.app last xs).ok := by
  unfold app
  split
  · next hb =>
    unfold appB at hb
    simp only [Bool.and_eq_true, decide_eq_true_eq, Bool.not_eq_true', decide_eq_false_iff_not] at hb
    have h3 := h.lim
    have h1 := h.len
    have h2 := h.low
    refine ⟨?_, ?_, ?_, h.max, h.marks, h.mark, fun p hp => ?_, h.holder⟩
    · show (t.dropped ++ [false]).length = (t.all ++ [xs]).length
      simp [h1]
    · show t.low ≤ (t.all ++ [xs]).length
      simp; omega
    · show ((t.all ++ [xs]).length : Int) ≤ t.limit
      have := hb.2
      simp; omega
    · rcases List.mem_append.1 hp with hp | hp
      · exact h.small p hp
      · rw [List.mem_singleton.1 hp]; exact hx
  · exact h
theorem adv_ok {t : Tb} (h : t.ok) (b : Int) : (t.adv b).ok := by
  unfold adv
  split
  · next hb =>
    unfold advB at hb
    simp only [Bool.and_eq_true, decide_eq_true_eq, Bool.not_eq_true', decide_eq_false_iff_not] at hb
    have h2 := h.low
    exact ⟨h.len, by show t.low + 1 ≤ t.all.length; have := hb.1; omega, h.lim, h.max, h.marks, h.mark, h.small, h.holder⟩
  · exact h
theorem mark_ok {t : Tb} (h : t.ok) (k : Int) {n : Int} (hn : n ≤ 9223372036854775807) : (t.mark k n).ok := by
  unfold mark
  split
  · refine ⟨h.len, h.low, h.lim, h.max, ?_, fun m hm => ?_, h.small, ?_⟩
    · show 1 ≤ (t.marks.set k.toNat (Max.max n (-1))).length ∧ (t.marks.set k.toNat (Max.max n (-1))).length ≤ 64
      rw [List.length_set]; exact h.marks
    · rcases List.mem_or_eq_of_mem_set (show m ∈ t.marks.set k.toNat (Max.max n (-1)) from hm) with e | e
      · exact h.mark m e
      · omega
    · show -1 ≤ t.holder ∧ t.holder < ((t.marks.set k.toNat (Max.max n (-1))).length : Int)
      rw [List.length_set]; exact h.holder
  · exact h
theorem grab_ok {t : Tb} (h : t.ok) (k : Int) : (t.grab k).ok := by
  unfold grab
  split
  · next hb =>
    unfold grabB has at hb
    simp only [Bool.and_eq_true, decide_eq_true_eq] at hb
    exact ⟨h.len, h.low, h.lim, h.max, h.marks, h.mark, h.small, by show -1 ≤ k ∧ k < (t.marks.length : Int); omega⟩
  · exact h
theorem yield_ok {t : Tb} (h : t.ok) (k : Int) : (t.yield_ k).ok := by
  unfold yield_
  split
  · exact ⟨h.len, h.low, h.lim, h.max, h.marks, h.mark, h.small, by have := h.marks.1; show -1 ≤ (-1 : Int) ∧ (-1 : Int) < (t.marks.length : Int); omega⟩
  · exact h
theorem trim_ok {t : Tb} (h : t.ok) (n : Int) : (t.trim n).ok :=
  ⟨by show (cut n t.low 0 t.dropped).length = t.all.length; rw [cut_len]; exact h.len, h.low, h.lim, h.max, h.marks, h.mark, h.small, h.holder⟩
end Tb

/-- texts as elements -/
def lStr : Lay ByteArray := ⟨9, 1, fun x => [.string x], fun _ => rfl, fun x u h => by simp at h; subst h; rfl⟩
/-- the calls on writes and rows -/
structure CmW : Prop where
  right : ∀ (v : Value) (xs : List Wr) (w : World), WrV lPw w v xs → xs.length ≤ 1000 → Calls Tryd.prog 39 #[v] w fun ev w' => ev = .returned (.bool (wRight xs)) ∧ Below w.heap.size w w'
/-- block k holds writes -/
def isW (w : World) (k : Nat) : Prop := ∃ cs o, w.heap[k]? = some (.cells cs 49 o)
/-- of a table's blocks those that its calls may turn: none that holds writes -/
def Mt (w : World) (S : Nat → Prop) : Nat → Prop := fun k => S k ∧ ¬ isW w k
theorem Kept.mt {w w' : World} {S : Nat → Prop} (h : Kept (Mt w S) w w') : Kept S w w' := h.wide fun _ _ e => e.1
theorem isW.keep {T : Nat → Prop} {w w' : World} {k : Nat} (h : isW w k) (hk : Kept T w w') (hn : ¬ T k) : isW w' k :=
  let ⟨cs, o, e⟩ := h
  ⟨cs, o, (hk.block k (Array.getElem?_eq_some_iff.1 e).1 hn).trans e⟩
theorem isW.below {w w' : World} {k : Nat} (h : isW w k) (hb : Below w.heap.size w w') : isW w' k :=
  let ⟨cs, o, e⟩ := h
  ⟨cs, o, (hb.block k (Array.getElem?_eq_some_iff.1 e).1).trans e⟩
/-- what a table's call turns is no block of writes that was there when the law's step began -/
theorem Kept.mt_trans {w W W' : World} {S : Nat → Prop} (h : Kept (Mt w S) w W) (hk : Kept (Mt W S) W W') : Kept (Mt w S) w W' := by
  refine ⟨hk.os.trans h.os, hk.tape.trans h.tape, hk.output.trans h.output, Nat.le_trans h.size hk.size, fun k hlt hn => ?_⟩
  have e := h.block k hlt hn
  refine (hk.block k (Nat.lt_of_lt_of_le hlt h.size) (fun hm => hn ⟨hm.1, fun hw => hm.2 ?_⟩)).trans e
  obtain ⟨cs, o, q⟩ := hw
  exact ⟨cs, o, e.trans q⟩
/-- a copy's blocks are its own, or hold writes -/
theorem cpLow {wo wc : World} {S S2 : Nat → Prop} (B : Below wo.heap.size wo wc) (hf : ∀ k, S k → k < wo.heap.size) (h : ∀ k, S2 k → wc.heap.size ≤ k ∨ (S k ∧ isW wc k)) : ∀ k, S2 k → wo.heap.size ≤ k ∨ (S k ∧ isW wo k) := fun k hk =>
  (h k hk).imp (Nat.le_trans B.size) fun ⟨a, cs, o, e⟩ => ⟨a, cs, o, (B.block k (hf k a)).symm.trans e⟩
/-- what a call of a table's tells when it changes it -/
def TbDone (Inv : World → Addr → (Nat → Prop) → Tb → Prop) (w : World) (a : Addr) (S : Nat → Prop) (t' : Tb) (r : Value) (ev : Ending) (w' : World) : Prop :=
  ∃ S', ev = .returned r ∧ Inv w' a S' t' ∧ Kept (Mt w S) w w' ∧ (∀ k, S' k → S k ∨ w.heap.size ≤ k)
def two (b : Bool) (e : Int) : Value := .tuple #[.bool b, errV e]
/-- the calls on tables -/
structure CmT where
  Inv : World → Addr → (Nat → Prop) → Tb → Prop
  keep : ∀ {w w' : World} {a : Addr} {S : Nat → Prop} {t : Tb}, Inv w a S t → Kept (fun k => ¬ S k) w w' → Inv w' a S t
  foot : ∀ {w : World} {a : Addr} {S : Nat → Prop} {t : Tb}, Inv w a S t → ∀ k, S k → k < w.heap.size
  ok : ∀ {w : World} {a : Addr} {S : Nat → Prop} {t : Tb}, Inv w a S t → t.ok
  new : ∀ (n l : Int) (w : World), okT n l = true → Calls Tryd.prog 8 #[.int .i64 n, .int .i64 l] w fun ev w' => ∃ a S, ev = .returned (.pointer (some a)) ∧ Inv w' a S (Tb.new n.toNat l) ∧ (∀ k, S k → w.heap.size ≤ k) ∧ Below w.heap.size w w'
  newNo : ∀ (n l : Int) (w : World), okT n l = false → Calls Tryd.prog 8 #[.int .i64 n, .int .i64 l] w fun ev w' => ev = .returned (.pointer none) ∧ Below w.heap.size w w'
  last : ∀ (a : Addr) (S : Nat → Prop) (t : Tb) (w : World), Inv w a S t → Calls Tryd.prog 13 #[.pointer (some a)] w fun ev w' => ev = .returned (.int .i64 (t.all.length : Int)) ∧ Below w.heap.size w w'
  base : ∀ (a : Addr) (S : Nat → Prop) (t : Tb) (w : World), Inv w a S t → Calls Tryd.prog 14 #[.pointer (some a)] w fun ev w' => ev = .returned (.int .i64 (t.low : Int)) ∧ Below w.heap.size w w'
  count : ∀ (a : Addr) (S : Nat → Prop) (t : Tb) (w : World), Inv w a S t → t.all.length ≤ 1000 → Calls Tryd.prog 15 #[.pointer (some a)] w fun ev w' => ev = .returned (.int .i64 (t.count : Int)) ∧ Below w.heap.size w w'
  at_ : ∀ (a : Addr) (S : Nat → Prop) (t : Tb) (n : Int) (w : World), Inv w a S t → t.all.length ≤ 1000 → Calls Tryd.prog 18 #[.pointer (some a), .int .i64 n] w fun ev w' => ∃ v', ev = .returned (.tuple #[v', errV (t.atE n)]) ∧ OwnS lPw w.heap.size w' v' (t.atL n) ∧ Below w.heap.size w w'
  append : ∀ (a : Addr) (S : Nat → Prop) (t : Tb) (n : Int) (v : Value) (xs : List Wr) (w : World), Inv w a S t → t.all.length ≤ 1000 → WrV lPw w v xs → xs.length ≤ 1000 →
    Calls Tryd.prog 17 #[.pointer (some a), .int .i64 n, v] w (TbDone Inv w a S (t.app n xs) (two (t.appB n xs) (t.appE n xs)))
  mark : ∀ (a : Addr) (S : Nat → Prop) (t : Tb) (k n : Int) (w : World), Inv w a S t → -9223372036854775808 ≤ n ∧ n ≤ 9223372036854775807 → Calls Tryd.prog 24 #[.pointer (some a), .int .i64 k, .int .i64 n] w (TbDone Inv w a S (t.mark k n) (errV (t.hasE k)))
  marked : ∀ (a : Addr) (S : Nat → Prop) (t : Tb) (k : Int) (w : World), Inv w a S t → Calls Tryd.prog 26 #[.pointer (some a), .int .i64 k] w fun ev w' => ev = .returned (.tuple #[.int .i64 (t.marked k), errV (t.hasE k)]) ∧ Below w.heap.size w w'
  grab : ∀ (a : Addr) (S : Nat → Prop) (t : Tb) (k : Int) (w : World), Inv w a S t → Calls Tryd.prog 28 #[.pointer (some a), .int .i64 k] w (TbDone Inv w a S (t.grab k) (two (t.grabB k) (t.hasE k)))
  yield_ : ∀ (a : Addr) (S : Nat → Prop) (t : Tb) (k : Int) (w : World), Inv w a S t → Calls Tryd.prog 30 #[.pointer (some a), .int .i64 k] w (TbDone Inv w a S (t.yield_ k) (two (t.yieldB k) (t.hasE k)))
  advance : ∀ (a : Addr) (S : Nat → Prop) (t : Tb) (b : Int) (w : World), Inv w a S t → Calls Tryd.prog 32 #[.pointer (some a), .int .i64 b] w (TbDone Inv w a S (t.adv b) (two (t.advB b) t.advE))
  trim : ∀ (a : Addr) (S : Nat → Prop) (t : Tb) (n : Int) (w : World), Inv w a S t → t.all.length ≤ 1000 → -9223372036854775808 ≤ n ∧ n ≤ 9223372036854775807 → Calls Tryd.prog 34 #[.pointer (some a), .int .i64 n] w (TbDone Inv w a S (t.trim n) (.int .i64 (t.trimN n : Int)))
  copy : ∀ (a : Addr) (S : Nat → Prop) (t : Tb) (w : World), Inv w a S t → t.all.length ≤ 1000 → Calls Tryd.prog 12 #[.pointer (some a)] w fun ev w' => ∃ a' S', ev = .returned (.pointer (some a')) ∧ Inv w' a' S' t ∧ (∀ k, S' k → w.heap.size ≤ k ∨ (S k ∧ isW w k)) ∧ Below w.heap.size w w'
theorem CmT.step (C : CmT) {w w' : World} {a : Addr} {S : Nat → Prop} {t : Tb} (h : C.Inv w a S t) (hb : Below w.heap.size w w') : C.Inv w' a S t := C.keep h (Kept.of_below hb)
/-- the calls on a table that is not there -/
structure CmN : Prop where
  last : ∀ (w : World), Calls Tryd.prog 13 #[.pointer none] w fun ev w' => ev = .returned (.int .i64 0) ∧ Below w.heap.size w w'
  base : ∀ (w : World), Calls Tryd.prog 14 #[.pointer none] w fun ev w' => ev = .returned (.int .i64 0) ∧ Below w.heap.size w w'
  count : ∀ (w : World), Calls Tryd.prog 15 #[.pointer none] w fun ev w' => ev = .returned (.int .i64 0) ∧ Below w.heap.size w w'
  at_ : ∀ (n : Int) (w : World), Calls Tryd.prog 18 #[.pointer none, .int .i64 n] w fun ev w' => ∃ v', ev = .returned (.tuple #[v', errV 1]) ∧ SV lPw w' v' [] ∧ Below w.heap.size w w'
  append : ∀ (n : Int) (v : Value) (xs : List Wr) (w : World), WrV lPw w v xs → xs.length ≤ 1000 → Calls Tryd.prog 17 #[.pointer none, .int .i64 n, v] w fun ev w' => ev = .returned (two false 1) ∧ Below w.heap.size w w'
  mark : ∀ (k n : Int) (w : World), Calls Tryd.prog 24 #[.pointer none, .int .i64 k, .int .i64 n] w fun ev w' => ev = .returned (errV 1) ∧ Below w.heap.size w w'
  marked : ∀ (k : Int) (w : World), Calls Tryd.prog 26 #[.pointer none, .int .i64 k] w fun ev w' => ev = .returned (.tuple #[.int .i64 (-1), errV 1]) ∧ Below w.heap.size w w'
  grab : ∀ (k : Int) (w : World), Calls Tryd.prog 28 #[.pointer none, .int .i64 k] w fun ev w' => ev = .returned (two false 1) ∧ Below w.heap.size w w'
  yield_ : ∀ (k : Int) (w : World), Calls Tryd.prog 30 #[.pointer none, .int .i64 k] w fun ev w' => ev = .returned (two false 1) ∧ Below w.heap.size w w'
  advance : ∀ (b : Int) (w : World), Calls Tryd.prog 32 #[.pointer none, .int .i64 b] w fun ev w' => ev = .returned (two false 1) ∧ Below w.heap.size w w'
  trim : ∀ (n : Int) (w : World), Calls Tryd.prog 34 #[.pointer none, .int .i64 n] w fun ev w' => ev = .returned (.int .i64 0) ∧ Below w.heap.size w w'
  copy : ∀ (w : World), Calls Tryd.prog 12 #[.pointer none] w fun ev w' => ev = .returned (.pointer none) ∧ Below w.heap.size w w'
/-- all that package commits owes -/
structure CmC where
  T : CmT
  W : CmW
  N : CmN
end Go.Proofs.YtkbfhpgcjljbbaaDoor
