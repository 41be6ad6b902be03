/- Layer 12's awake is true. -/
import Derived.Test.YtejmdmaebkdjoaaGreatDoorNsHead
import Derived.Test.YtejmdmaebkdjoaaGreatDoorNsStepB
import Derived.Test.YtejmdmaebkdjoaaGreatDoorNsStepC
import Derived.Test.YtejmdmaebkdjoaaGreatDoorMmChain
namespace Go.Proofs.YtejmdmaebkdjoaaGreatDoor
set_option linter.unusedVariables false
set_option linter.unusedSimpArgs false
set_option maxRecDepth 100000
set_option maxHeartbeats 4000000
open Go.RowKit
def awD : RecD := ⟨{ Sc.zero with kind := 3, key := ⟨#[97]⟩, ns := 1, ng := 1 }, [], []⟩
theorem built_aw : Tryz.prog.built 55 [(0, .int .i64 3), (7, .string ⟨#[97]⟩), (11, .agg #[.int .i64 1, .int .i64 1])] = some (recCells awD.sc (.slice none 0 0) (.slice none 0 0)).toArray := by kernel_rfl
theorem aw_one : (recCells awD.sc (.slice none 0 0) (.slice none 0 0)).toArray.all (fun x => x.oneCell') = true := by kernel_rfl
theorem RecsV.none (w : World) (T : Nat → Prop) : RecsV w T (.slice none 0 0) [] [] := ⟨SV.nil _ _, (fun _ _ _ e => by cases e), rfl, by simp, (fun j x d h => by simp at h)⟩
theorem Out.none {T : Nat → Prop} : Out T (.slice none 0 0) := fun _ _ _ e => by cases e
theorem results_tmpC {fn : Func} {p u : Tmp} {ty : TypeId} (h : fn.results = #[.tmp u, .cell p ty]) (tmps : Array Value) (w : World) (b : Nat) (cs : List Value) (d : TypeDesc) (ev : Value) (hp : tmps.getD p undef = .pointer (some ⟨b, 0, none⟩)) (hev : tmps.getD u undef = ev) (hc : w.rangeAt b 0 cs)
  (hu : Tryz.prog.underlying ty = some d) (hd : d.isRow = true) (hi : (Tryz.prog.info? ty).map (·.size) = some cs.length) : (results fn tmps).run Tryz.prog w = .ok (.tuple #[ev, .agg cs.toArray]) w := by
 have hl := run_loadVar_mid w b 0 ty cs d hc hu hd hi
 have e1 : tmps[p]?.getD undef = .pointer (some ⟨b, 0, none⟩) := by simpa using hp
 have e2 : tmps[u]?.getD undef = ev := by simpa using hev
 simp only [results, h]
 simp [e1, e2, asAddr, hl]
theorem hF_aw : ∀ args w, (callFunc 22 args).run Tryz.prog w = .ok (.enter 22 args) w := fun args w => by simp [go_sem]
theorem awake1_any (Z : Nat → Prop) (hb : Nat) (pv : Value) (w : World) (h : RfB w hb 1 1) : Calls Tryz.prog 22 (#[pv] ++ #[.pointer (some ⟨hb, 0, none⟩)]) w (MadeP (fun _ => True) (fun _ => True) w (fun k => False ∨ pv.ownBlock = some k) Z [] awD) := by
 have B0 := Lib.hid (alloc_below0 w (.cells #[.int .i64 0, .string ⟨#[]⟩, .string ⟨#[]⟩, .bool false, .int .i64 0, .slice none 0 0, .slice none 0 0, .string ⟨#[]⟩, .string ⟨#[]⟩, .int .i64 0, .int .i64 0, .int .i64 0, .string ⟨#[]⟩, .int .i64 0, .int .i64 0] 55))
 have X0 := Lib.hid (blk_new w (.cells #[.int .i64 0, .string ⟨#[]⟩, .string ⟨#[]⟩, .bool false, .int .i64 0, .slice none 0 0, .slice none 0 0, .string ⟨#[]⟩, .string ⟨#[]⟩, .int .i64 0, .int .i64 0, .int .i64 0, .string ⟨#[]⟩, .int .i64 0, .int .i64 0] 55))
 have R0 := Lib.hid (h.step (alloc_below0 w (.cells #[.int .i64 0, .string ⟨#[]⟩, .string ⟨#[]⟩, .bool false, .int .i64 0, .slice none 0 0, .slice none 0 0, .string ⟨#[]⟩, .string ⟨#[]⟩, .int .i64 0, .int .i64 0, .int .i64 0, .string ⟨#[]⟩, .int .i64 0, .int .i64 0] 55)))
 clear h
 go_enter Tryz.func22, Tryz.ntmps22
 go_wp2_with fail
 generalize hwa : w.alloc (.cells #[.int .i64 0, .string ⟨#[]⟩, .string ⟨#[]⟩, .bool false, .int .i64 0, .slice none 0 0, .slice none 0 0, .string ⟨#[]⟩, .string ⟨#[]⟩, .int .i64 0, .int .i64 0, .int .i64 0, .string ⟨#[]⟩, .int .i64 0, .int .i64 0] 55) = wa at *
 clear hwa
 have RD := Lib.hid (R0.out.step (Below.refl _ _).drew)
 have BD := Lib.hid B0.out.drew
 have XD := Lib.hid (show wa.drew.heap[w.heap.size]? = some (.cells #[.int .i64 0, .string ⟨#[]⟩, .string ⟨#[]⟩, .bool false, .int .i64 0, .slice none 0 0, .slice none 0 0, .string ⟨#[]⟩, .string ⟨#[]⟩, .int .i64 0, .int .i64 0, .int .i64 0, .string ⟨#[]⟩, .int .i64 0, .int .i64 0] 55 (0, 0)) from X0.out)
 refine AnyBut.region (fun w' => RfB w' hb 1 1) 3 (by kernel_rfl) ?_
 generalize wa.drew = wd at *
 refine AnyBut.takeP [] (i := 0) (oi := ⟨some 5, _, _, _, _, _⟩) (v := ?va0) rfl (by kernel_rfl) (by kernel_rfl) (by kernel_rfl) (by kernel_rfl) (by kernel_rfl) (fun _ _ _ h => h) (Or.inl ⟨by rfl, ?hya0⟩) RD.out ?resta0
 case hya0 => (intro w hSw; have q0 := hSw.c0; have q1 := hSw.c1; go_simp; try (with_reducible rfl))
 simp only [Act.put, sT, sZ, sS]
 refine AnyBut.takeP [] (i := 2) (oi := ⟨some 3, _, _, _, _, _⟩) (v := ?va2) rfl (by kernel_rfl) (by kernel_rfl) (by kernel_rfl) (by kernel_rfl) (by kernel_rfl) (fun _ _ _ h => h) (Or.inl ⟨by rfl, ?hya2⟩) RD.out ?resta2
 case hya2 => (intro w hSw; have q0 := hSw.c0; have q1 := hSw.c1; go_simp; try (with_reducible rfl))
 simp only [Act.put, sT, sZ, sS]
 refine AnyBut.takeP [] (i := 1) (oi := ⟨some 6, _, _, _, _, _⟩) (v := .agg (recCells awD.sc (.slice none 0 0) (.slice none 0 0)).toArray) rfl (by kernel_rfl) (by kernel_rfl) (by kernel_rfl) (by kernel_rfl) (by kernel_rfl) (fun _ _ _ h => h) ?yba1 RD.out ?resta1
 case yba1 =>
  refine yieldsIf_build_to (by rfl) 55 _ rfl _ ?_
  exact (congrArg (Program.built Tryz.prog 55) (by rfl)).trans (built_aw)
 simp only [Act.put, sT, sZ, sS]
 refine AnyBut.one (i := 3) (o := ⟨none, _, _, _, _, _⟩) (by kernel_rfl) rfl (fun K hK => ?_)
 rw [if_pos (by rfl)]
 refine wp_store_to 55 (.tmp 4) (.tmp 6) rfl w.heap.size 0 (recCells awD.sc (.slice none 0 0) (.slice none 0 0)) rfl rfl ?_ recInfoS aw_one ?_
 ·exact blk_there XD.out 15 (Nat.le_refl _)
 intro W2 hW2
 have X2 := Lib.hid (show W2.heap[w.heap.size]? = some (recObj awD.sc (.slice none 0 0) (.slice none 0 0)) by rw [hW2]; exact list_laid (recCells awD.sc (.slice none 0 0) (.slice none 0 0)) XD.out rfl)
 have B2 := Lib.hid (show Below w.heap.size w W2 by rw [hW2]; exact below_setCells (Nat.le_refl _) _ 0 _ BD.out)
 clear hW2
 refine hK.out _ _ (fun h => absurd rfl h) ?_
 clear hK K
 try simp only [Act.put]
 refine AnyBut.done (by kernel_rfl) ?_ _
 try simp only [Act.put]
 go_wp2
 refine bodyPost_ret (v := .tuple #[.slice none 0 0, .agg (recCells awD.sc (.slice none 0 0) (.slice none 0 0)).toArray]) (results_tmpC rfl _ _ w.heap.size (recCells awD.sc (.slice none 0 0) (.slice none 0 0)) _ _ rfl rfl (rec_range X2.out) Tryz.underlying55 rfl recInfoS) rfl ?_
 exact ⟨none, 0, 0, none, 0, 0, none, 0, 0, [], rfl, RecsV.none _ _, ⟨_, _, rfl, SV.nil _ _, SV.nil _ _⟩, Out.none, Out.none, by decide, by decide, Kept.of_below B2.out, fun k _ h => h.low B2.out⟩
end Go.Proofs.YtejmdmaebkdjoaaGreatDoor
