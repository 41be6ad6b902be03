/- Package install's take, by contract. -/
import Derived.Test.YtaiaaljahnackaaNsSet
import Derived.Test.YtaiaaljahnackaaNsMemB
namespace Go.Proofs.Ytaiaaljahnackaa
open Go.RowKit

theorem InsAt.rPg {w : World} {b : Nat} {i : Ins} (h : InsAt w b i) : w.rangeAt b 6 [.int .i64 (i.pg 0), .int .i64 (i.pg 1), .int .i64 (i.pg 2), .int .i64 (i.pg 3)] := fun j u hj => by
  have hl : j < 4 := (List.getElem?_eq_some_iff.1 hj).1
  match j, hl, hj with
  | 0, _, hj => exact (blk_cell h.blk 6).trans hj
  | 1, _, hj => exact (blk_cell h.blk 7).trans hj
  | 2, _, hj => exact (blk_cell h.blk 8).trans hj
  | 3, _, hj => exact (blk_cell h.blk 9).trans hj
def Ins.rfL (i : Ins) : List Value := [.int .i64 (i.rf 0).1, .int .i64 (i.rf 0).2, .int .i64 (i.rf 1).1, .int .i64 (i.rf 1).2, .int .i64 (i.rf 2).1, .int .i64 (i.rf 2).2, .int .i64 (i.rf 3).1, .int .i64 (i.rf 3).2, .int .i64 (i.rf 4).1, .int .i64 (i.rf 4).2]
theorem InsAt.rRf {w : World} {b : Nat} {i : Ins} (h : InsAt w b i) : w.rangeAt b 85 i.rfL := fun j u hj => by
  have hl : j < 10 := (List.getElem?_eq_some_iff.1 hj).1
  match j, hl, hj with
  | 0, _, hj => exact (blk_cell h.blk 85).trans hj
  | 1, _, hj => exact (blk_cell h.blk 86).trans hj
  | 2, _, hj => exact (blk_cell h.blk 87).trans hj
  | 3, _, hj => exact (blk_cell h.blk 88).trans hj
  | 4, _, hj => exact (blk_cell h.blk 89).trans hj
  | 5, _, hj => exact (blk_cell h.blk 90).trans hj
  | 6, _, hj => exact (blk_cell h.blk 91).trans hj
  | 7, _, hj => exact (blk_cell h.blk 92).trans hj
  | 8, _, hj => exact (blk_cell h.blk 93).trans hj
  | 9, _, hj => exact (blk_cell h.blk 94).trans hj
def Ins.pgL (i : Ins) : List Value := [.int .i64 (i.pg 0), .int .i64 (i.pg 1), .int .i64 (i.pg 2), .int .i64 (i.pg 3)]
def undoI (i : Ins) (v : Value) : Ins := { Ins.zero v with st := 7, pg := i.pg, rf := i.rf, tk := i.tk, pt := i.pt }
def succI (i : Ins) : Ins := { Ins.zero .nilIface with pg := i.pg, rf := i.rf, tk := i.tk, pt := i.pt, dn := true }
theorem pgInfo : (Try.prog.info? 85).map (·.size) = some 4 := by kernel_rfl
theorem rfInfo : (Try.prog.info? 87).map (·.size) = some 10 := by kernel_rfl
theorem built_undo (i : Ins) {v : Value} (h : ErV v) : Try.prog.built 89 [(1, .int .i64 7), (2, .agg i.pgL.toArray), (4, .agg i.rfL.toArray), (5, .int .i64 (i.tk : Int)), (6, .int .i64 (i.pt : Int)), (9, v)] = some (undoI i v).list.toArray := by
  rcases h with rfl | ⟨t, x, rfl⟩ <;> kernel_rfl
theorem built_succ (i : Ins) : Try.prog.built 89 [(2, .agg i.pgL.toArray), (4, .agg i.rfL.toArray), (5, .int .i64 (i.tk : Int)), (6, .int .i64 (i.pt : Int)), (8, .bool true)] = some (succI i).list.toArray := by kernel_rfl
theorem undo_one (i : Ins) {er : Value} (h : ErV er) : (undoI i er).list.toArray.all (fun x => x.oneCell') = true := by
  rcases h with rfl | ⟨t, x, rfl⟩ <;> kernel_rfl
theorem succ_one (i : Ins) : (succI i).list.toArray.all (fun x => x.oneCell') = true := by kernel_rfl
set_option maxRecDepth 100000 in
set_option maxHeartbeats 4000000 in
theorem undo_any (w : World) (b : Nat) (i : Ins) (v : Value) (hv : ErV v) (h : InsAt w b i) : Calls Try.prog 59 #[.pointer (some ⟨b, 0, none⟩), v] w fun ev w' => ev = .returned (.tuple #[]) ∧ InsAt w' b (undoI i v) ∧ Kept (fun k => k = b) w w' := by
  have ID := Lib.hid (h.step (Below.refl _ _).drew)
  have TD := Lib.hid ID.out.there
  have LD := Lib.hid (ID.out.laid (undoI i v))
  have KD := Lib.hid ((Kept.refl (fun k => k = b) w).drew.trans (Kept.setCells (undoI i v).list 0 w.drew (Kept.refl (fun k => k = b) w.drew)))
  have V0 := Lib.hid hv
  clear hv
  clear h
  go_enter Try.func59, Try.ntmps59
  go_wp2_with fail
  refine AnyBut.region (fun w' => InsAt w' b i) 20 (by kernel_rfl) ?_
  refine AnyBut.take (i := 0) (oi := ⟨some 4, _, _, _, _, _⟩) (v := ?va0) rfl (by kernel_rfl) (by kernel_rfl) (by kernel_rfl) (by kernel_rfl) (fun _ _ _ h => h) (Or.inl ⟨by rfl, ?hya0⟩) ID.out ?resta0
  case hya0 => (intro w hSw; have q0 := hSw.cTk; have q1 := hSw.cPt; go_simp; try (with_reducible rfl))
  simp only [Act.put, List.setIfInBounds_toArray, List.set_cons_zero, List.set_cons_succ]
  refine AnyBut.take (i := 1) (oi := ⟨some 5, _, _, _, _, _⟩) (v := ?va1) rfl (by kernel_rfl) (by kernel_rfl) (by kernel_rfl) (by kernel_rfl) (fun _ _ _ h => h) (Or.inl ⟨by rfl, ?hya1⟩) ID.out ?resta1
  case hya1 => (intro w hSw; have q0 := hSw.cTk; have q1 := hSw.cPt; go_simp; try (with_reducible rfl))
  simp only [Act.put, List.setIfInBounds_toArray, List.set_cons_zero, List.set_cons_succ]
  refine AnyBut.take (i := 2) (oi := ⟨some 6, _, _, _, _, _⟩) (v := ?va2) rfl (by kernel_rfl) (by kernel_rfl) (by kernel_rfl) (by kernel_rfl) (fun _ _ _ h => h) (Or.inl ⟨by rfl, ?hya2⟩) ID.out ?resta2
  case hya2 => (intro w hSw; have q0 := hSw.cTk; have q1 := hSw.cPt; go_simp; try (with_reducible rfl))
  simp only [Act.put, List.setIfInBounds_toArray, List.set_cons_zero, List.set_cons_succ]
  refine AnyBut.take (i := 3) (oi := ⟨some 7, _, _, _, _, _⟩) (v := ?va3) rfl (by kernel_rfl) (by kernel_rfl) (by kernel_rfl) (by kernel_rfl) (fun _ _ _ h => h) (Or.inl ⟨by rfl, ?hya3⟩) ID.out ?resta3
  case hya3 => (intro w hSw; have q0 := hSw.cTk; have q1 := hSw.cPt; go_simp; try (with_reducible rfl))
  simp only [Act.put, List.setIfInBounds_toArray, List.set_cons_zero, List.set_cons_succ]
  refine AnyBut.take (i := 4) (oi := ⟨some 8, _, _, _, _, _⟩) (v := .agg i.pgL.toArray) rfl (by kernel_rfl) (by kernel_rfl) (by kernel_rfl) (by kernel_rfl) (fun _ _ _ h => h) (yieldsIf_load_mid (by rfl) 85 (.tmp 7) rfl b 6 rfl i.pgL _ (fun w h => h.rPg) Try.underlying85 rfl pgInfo) ID.out ?resta4
  simp only [Act.put, List.setIfInBounds_toArray, List.set_cons_zero, List.set_cons_succ]
  refine AnyBut.take (i := 5) (oi := ⟨some 9, _, _, _, _, _⟩) (v := ?va5) rfl (by kernel_rfl) (by kernel_rfl) (by kernel_rfl) (by kernel_rfl) (fun _ _ _ h => h) (Or.inl ⟨by rfl, ?hya5⟩) ID.out ?resta5
  case hya5 => (intro w hSw; have q0 := hSw.cTk; have q1 := hSw.cPt; go_simp; try (with_reducible rfl))
  simp only [Act.put, List.setIfInBounds_toArray, List.set_cons_zero, List.set_cons_succ]
  refine AnyBut.take (i := 6) (oi := ⟨some 10, _, _, _, _, _⟩) (v := ?va6) rfl (by kernel_rfl) (by kernel_rfl) (by kernel_rfl) (by kernel_rfl) (fun _ _ _ h => h) (Or.inl ⟨by rfl, ?hya6⟩) ID.out ?resta6
  case hya6 => (intro w hSw; have q0 := hSw.cTk; have q1 := hSw.cPt; go_simp; try (with_reducible rfl))
  simp only [Act.put, List.setIfInBounds_toArray, List.set_cons_zero, List.set_cons_succ]
  refine AnyBut.take (i := 7) (oi := ⟨some 11, _, _, _, _, _⟩) (v := ?va7) rfl (by kernel_rfl) (by kernel_rfl) (by kernel_rfl) (by kernel_rfl) (fun _ _ _ h => h) (Or.inl ⟨by rfl, ?hya7⟩) ID.out ?resta7
  case hya7 => (intro w hSw; have q0 := hSw.cTk; have q1 := hSw.cPt; go_simp; try (with_reducible rfl))
  simp only [Act.put, List.setIfInBounds_toArray, List.set_cons_zero, List.set_cons_succ]
  refine AnyBut.take (i := 8) (oi := ⟨some 12, _, _, _, _, _⟩) (v := .agg i.rfL.toArray) rfl (by kernel_rfl) (by kernel_rfl) (by kernel_rfl) (by kernel_rfl) (fun _ _ _ h => h) (yieldsIf_load_mid (by rfl) 87 (.tmp 11) rfl b 85 rfl i.rfL _ (fun w h => h.rRf) Try.underlying87 rfl rfInfo) ID.out ?resta8
  simp only [Act.put, List.setIfInBounds_toArray, List.set_cons_zero, List.set_cons_succ]
  refine AnyBut.take (i := 9) (oi := ⟨some 13, _, _, _, _, _⟩) (v := ?va9) rfl (by kernel_rfl) (by kernel_rfl) (by kernel_rfl) (by kernel_rfl) (fun _ _ _ h => h) (Or.inl ⟨by rfl, ?hya9⟩) ID.out ?resta9
  case hya9 => (intro w hSw; have q0 := hSw.cTk; have q1 := hSw.cPt; go_simp; try (with_reducible rfl))
  simp only [Act.put, List.setIfInBounds_toArray, List.set_cons_zero, List.set_cons_succ]
  refine AnyBut.take (i := 10) (oi := ⟨some 14, _, _, _, _, _⟩) (v := ?va10) rfl (by kernel_rfl) (by kernel_rfl) (by kernel_rfl) (by kernel_rfl) (fun _ _ _ h => h) (Or.inl ⟨by rfl, ?hya10⟩) ID.out ?resta10
  case hya10 => (intro w hSw; have q0 := hSw.cTk; have q1 := hSw.cPt; go_simp; try (with_reducible rfl))
  simp only [Act.put, List.setIfInBounds_toArray, List.set_cons_zero, List.set_cons_succ]
  refine AnyBut.take (i := 11) (oi := ⟨some 15, _, _, _, _, _⟩) (v := ?va11) rfl (by kernel_rfl) (by kernel_rfl) (by kernel_rfl) (by kernel_rfl) (fun _ _ _ h => h) (Or.inl ⟨by rfl, ?hya11⟩) ID.out ?resta11
  case hya11 => (intro w hSw; have q0 := hSw.cTk; have q1 := hSw.cPt; go_simp; try (with_reducible rfl))
  simp only [Act.put, List.setIfInBounds_toArray, List.set_cons_zero, List.set_cons_succ]
  refine AnyBut.take (i := 12) (oi := ⟨some 16, _, _, _, _, _⟩) (v := ?va12) rfl (by kernel_rfl) (by kernel_rfl) (by kernel_rfl) (by kernel_rfl) (fun _ _ _ h => h) (Or.inl ⟨by rfl, ?hya12⟩) ID.out ?resta12
  case hya12 => (intro w hSw; have q0 := hSw.cTk; have q1 := hSw.cPt; go_simp; try (with_reducible rfl))
  simp only [Act.put, List.setIfInBounds_toArray, List.set_cons_zero, List.set_cons_succ]
  refine AnyBut.take (i := 13) (oi := ⟨some 17, _, _, _, _, _⟩) (v := ?va13) rfl (by kernel_rfl) (by kernel_rfl) (by kernel_rfl) (by kernel_rfl) (fun _ _ _ h => h) (Or.inl ⟨by rfl, ?hya13⟩) ID.out ?resta13
  case hya13 => (intro w hSw; have q0 := hSw.cTk; have q1 := hSw.cPt; go_simp; try (with_reducible rfl))
  simp only [Act.put, List.setIfInBounds_toArray, List.set_cons_zero, List.set_cons_succ]
  refine AnyBut.take (i := 14) (oi := ⟨some 18, _, _, _, _, _⟩) (v := ?va14) rfl (by kernel_rfl) (by kernel_rfl) (by kernel_rfl) (by kernel_rfl) (fun _ _ _ h => h) (Or.inl ⟨by rfl, ?hya14⟩) ID.out ?resta14
  case hya14 => (intro w hSw; have q0 := hSw.cTk; have q1 := hSw.cPt; go_simp; try (with_reducible rfl))
  simp only [Act.put, List.setIfInBounds_toArray, List.set_cons_zero, List.set_cons_succ]
  refine AnyBut.take (i := 15) (oi := ⟨some 19, _, _, _, _, _⟩) (v := ?va15) rfl (by kernel_rfl) (by kernel_rfl) (by kernel_rfl) (by kernel_rfl) (fun _ _ _ h => h) (Or.inl ⟨by rfl, ?hya15⟩) ID.out ?resta15
  case hya15 => (intro w hSw; have q0 := hSw.cTk; have q1 := hSw.cPt; go_simp; try (with_reducible rfl))
  simp only [Act.put, List.setIfInBounds_toArray, List.set_cons_zero, List.set_cons_succ]
  refine AnyBut.take (i := 16) (oi := ⟨some 20, _, _, _, _, _⟩) (v := ?va16) rfl (by kernel_rfl) (by kernel_rfl) (by kernel_rfl) (by kernel_rfl) (fun _ _ _ h => h) (Or.inl ⟨by rfl, ?hya16⟩) ID.out ?resta16
  case hya16 => (intro w hSw; have q0 := hSw.cTk; have q1 := hSw.cPt; go_simp; try (with_reducible rfl))
  simp only [Act.put, List.setIfInBounds_toArray, List.set_cons_zero, List.set_cons_succ]
  refine AnyBut.take (i := 17) (oi := ⟨some 21, _, _, _, _, _⟩) (v := ?va17) rfl (by kernel_rfl) (by kernel_rfl) (by kernel_rfl) (by kernel_rfl) (fun _ _ _ h => h) (Or.inl ⟨by rfl, ?hya17⟩) ID.out ?resta17
  case hya17 => (intro w hSw; have q0 := hSw.cTk; have q1 := hSw.cPt; go_simp; try (with_reducible rfl))
  simp only [Act.put, List.setIfInBounds_toArray, List.set_cons_zero, List.set_cons_succ]
  refine AnyBut.take (i := 18) (oi := ⟨some 22, _, _, _, _, _⟩) (v := .agg (undoI i v).list.toArray) rfl (by kernel_rfl) (by kernel_rfl) (by kernel_rfl) (by kernel_rfl) (fun _ _ _ h => h) ?yba18 ID.out ?resta18
  case yba18 =>
    refine yieldsIf_build_to (by rfl) 89 _ rfl _ ?_
    exact (congrArg (Program.built Try.prog 89) (by rfl)).trans ((built_undo i V0.out))
  simp only [Act.put, List.setIfInBounds_toArray, List.set_cons_zero, List.set_cons_succ]
  refine AnyBut.take (i := 19) (oi := ⟨some 23, _, _, _, _, _⟩) (v := ?va19) rfl (by kernel_rfl) (by kernel_rfl) (by kernel_rfl) (by kernel_rfl) (fun _ _ _ h => h) (Or.inl ⟨by rfl, ?hya19⟩) ID.out ?resta19
  case hya19 => (intro w hSw; have q0 := hSw.cTk; have q1 := hSw.cPt; go_simp; try (with_reducible rfl))
  simp only [Act.put, List.setIfInBounds_toArray, List.set_cons_zero, List.set_cons_succ]
  refine AnyBut.one (i := 20) (o := ⟨none, _, _, _, _, _⟩) (by kernel_rfl) rfl (fun K hK => ?_)
  rw [if_pos (by rfl)]
  refine wp_store_mid 89 (.tmp 23) (.tmp 22) rfl b 0 (undoI i v).list.toArray rfl rfl TD.out insInfo (undo_one i V0.out) ?_
  refine hK.out _ _ (fun h => absurd rfl h) ?_
  clear hK K
  try simp only [Act.put]
  refine AnyBut.done (by kernel_rfl) ?_ _
  go_wp2
  go_end0
  exact ⟨rfl, LD.out, KD.out⟩
set_option maxRecDepth 100000 in
set_option maxHeartbeats 4000000 in
theorem succ_any (w : World) (b : Nat) (i : Ins) (h : InsAt w b i) : Calls Try.prog 42 #[.pointer (some ⟨b, 0, none⟩)] w fun ev w' => ev = .returned (.tuple #[]) ∧ InsAt w' b (succI i) ∧ Kept (fun k => k = b) w w' := by
  have ID := Lib.hid (h.step (Below.refl _ _).drew)
  have TD := Lib.hid ID.out.there
  have LD := Lib.hid (ID.out.laid (succI i))
  have KD := Lib.hid ((Kept.refl (fun k => k = b) w).drew.trans (Kept.setCells (succI i).list 0 w.drew (Kept.refl (fun k => k = b) w.drew)))
  clear h
  go_enter Try.func42, Try.ntmps42
  go_wp2_with fail
  refine AnyBut.region (fun w' => InsAt w' b i) 19 (by kernel_rfl) ?_
  refine AnyBut.take (i := 0) (oi := ⟨some 2, _, _, _, _, _⟩) (v := ?va0) rfl (by kernel_rfl) (by kernel_rfl) (by kernel_rfl) (by kernel_rfl) (fun _ _ _ h => h) (Or.inl ⟨by rfl, ?hya0⟩) ID.out ?resta0
  case hya0 => (intro w hSw; have q0 := hSw.cTk; have q1 := hSw.cPt; go_simp; try (with_reducible rfl))
  simp only [Act.put, List.setIfInBounds_toArray, List.set_cons_zero, List.set_cons_succ]
  refine AnyBut.take (i := 1) (oi := ⟨some 3, _, _, _, _, _⟩) (v := ?va1) rfl (by kernel_rfl) (by kernel_rfl) (by kernel_rfl) (by kernel_rfl) (fun _ _ _ h => h) (Or.inl ⟨by rfl, ?hya1⟩) ID.out ?resta1
  case hya1 => (intro w hSw; have q0 := hSw.cTk; have q1 := hSw.cPt; go_simp; try (with_reducible rfl))
  simp only [Act.put, List.setIfInBounds_toArray, List.set_cons_zero, List.set_cons_succ]
  refine AnyBut.take (i := 2) (oi := ⟨some 4, _, _, _, _, _⟩) (v := ?va2) rfl (by kernel_rfl) (by kernel_rfl) (by kernel_rfl) (by kernel_rfl) (fun _ _ _ h => h) (Or.inl ⟨by rfl, ?hya2⟩) ID.out ?resta2
  case hya2 => (intro w hSw; have q0 := hSw.cTk; have q1 := hSw.cPt; go_simp; try (with_reducible rfl))
  simp only [Act.put, List.setIfInBounds_toArray, List.set_cons_zero, List.set_cons_succ]
  refine AnyBut.take (i := 3) (oi := ⟨some 5, _, _, _, _, _⟩) (v := ?va3) rfl (by kernel_rfl) (by kernel_rfl) (by kernel_rfl) (by kernel_rfl) (fun _ _ _ h => h) (Or.inl ⟨by rfl, ?hya3⟩) ID.out ?resta3
  case hya3 => (intro w hSw; have q0 := hSw.cTk; have q1 := hSw.cPt; go_simp; try (with_reducible rfl))
  simp only [Act.put, List.setIfInBounds_toArray, List.set_cons_zero, List.set_cons_succ]
  refine AnyBut.take (i := 4) (oi := ⟨some 6, _, _, _, _, _⟩) (v := .agg i.pgL.toArray) rfl (by kernel_rfl) (by kernel_rfl) (by kernel_rfl) (by kernel_rfl) (fun _ _ _ h => h) (yieldsIf_load_mid (by rfl) 85 (.tmp 5) rfl b 6 rfl i.pgL _ (fun w h => h.rPg) Try.underlying85 rfl pgInfo) ID.out ?resta4
  simp only [Act.put, List.setIfInBounds_toArray, List.set_cons_zero, List.set_cons_succ]
  refine AnyBut.take (i := 5) (oi := ⟨some 7, _, _, _, _, _⟩) (v := ?va5) rfl (by kernel_rfl) (by kernel_rfl) (by kernel_rfl) (by kernel_rfl) (fun _ _ _ h => h) (Or.inl ⟨by rfl, ?hya5⟩) ID.out ?resta5
  case hya5 => (intro w hSw; have q0 := hSw.cTk; have q1 := hSw.cPt; go_simp; try (with_reducible rfl))
  simp only [Act.put, List.setIfInBounds_toArray, List.set_cons_zero, List.set_cons_succ]
  refine AnyBut.take (i := 6) (oi := ⟨some 8, _, _, _, _, _⟩) (v := ?va6) rfl (by kernel_rfl) (by kernel_rfl) (by kernel_rfl) (by kernel_rfl) (fun _ _ _ h => h) (Or.inl ⟨by rfl, ?hya6⟩) ID.out ?resta6
  case hya6 => (intro w hSw; have q0 := hSw.cTk; have q1 := hSw.cPt; go_simp; try (with_reducible rfl))
  simp only [Act.put, List.setIfInBounds_toArray, List.set_cons_zero, List.set_cons_succ]
  refine AnyBut.take (i := 7) (oi := ⟨some 9, _, _, _, _, _⟩) (v := ?va7) rfl (by kernel_rfl) (by kernel_rfl) (by kernel_rfl) (by kernel_rfl) (fun _ _ _ h => h) (Or.inl ⟨by rfl, ?hya7⟩) ID.out ?resta7
  case hya7 => (intro w hSw; have q0 := hSw.cTk; have q1 := hSw.cPt; go_simp; try (with_reducible rfl))
  simp only [Act.put, List.setIfInBounds_toArray, List.set_cons_zero, List.set_cons_succ]
  refine AnyBut.take (i := 8) (oi := ⟨some 10, _, _, _, _, _⟩) (v := .agg i.rfL.toArray) rfl (by kernel_rfl) (by kernel_rfl) (by kernel_rfl) (by kernel_rfl) (fun _ _ _ h => h) (yieldsIf_load_mid (by rfl) 87 (.tmp 9) rfl b 85 rfl i.rfL _ (fun w h => h.rRf) Try.underlying87 rfl rfInfo) ID.out ?resta8
  simp only [Act.put, List.setIfInBounds_toArray, List.set_cons_zero, List.set_cons_succ]
  refine AnyBut.take (i := 9) (oi := ⟨some 11, _, _, _, _, _⟩) (v := ?va9) rfl (by kernel_rfl) (by kernel_rfl) (by kernel_rfl) (by kernel_rfl) (fun _ _ _ h => h) (Or.inl ⟨by rfl, ?hya9⟩) ID.out ?resta9
  case hya9 => (intro w hSw; have q0 := hSw.cTk; have q1 := hSw.cPt; go_simp; try (with_reducible rfl))
  simp only [Act.put, List.setIfInBounds_toArray, List.set_cons_zero, List.set_cons_succ]
  refine AnyBut.take (i := 10) (oi := ⟨some 12, _, _, _, _, _⟩) (v := ?va10) rfl (by kernel_rfl) (by kernel_rfl) (by kernel_rfl) (by kernel_rfl) (fun _ _ _ h => h) (Or.inl ⟨by rfl, ?hya10⟩) ID.out ?resta10
  case hya10 => (intro w hSw; have q0 := hSw.cTk; have q1 := hSw.cPt; go_simp; try (with_reducible rfl))
  simp only [Act.put, List.setIfInBounds_toArray, List.set_cons_zero, List.set_cons_succ]
  refine AnyBut.take (i := 11) (oi := ⟨some 13, _, _, _, _, _⟩) (v := ?va11) rfl (by kernel_rfl) (by kernel_rfl) (by kernel_rfl) (by kernel_rfl) (fun _ _ _ h => h) (Or.inl ⟨by rfl, ?hya11⟩) ID.out ?resta11
  case hya11 => (intro w hSw; have q0 := hSw.cTk; have q1 := hSw.cPt; go_simp; try (with_reducible rfl))
  simp only [Act.put, List.setIfInBounds_toArray, List.set_cons_zero, List.set_cons_succ]
  refine AnyBut.take (i := 12) (oi := ⟨some 14, _, _, _, _, _⟩) (v := ?va12) rfl (by kernel_rfl) (by kernel_rfl) (by kernel_rfl) (by kernel_rfl) (fun _ _ _ h => h) (Or.inl ⟨by rfl, ?hya12⟩) ID.out ?resta12
  case hya12 => (intro w hSw; have q0 := hSw.cTk; have q1 := hSw.cPt; go_simp; try (with_reducible rfl))
  simp only [Act.put, List.setIfInBounds_toArray, List.set_cons_zero, List.set_cons_succ]
  refine AnyBut.take (i := 13) (oi := ⟨some 15, _, _, _, _, _⟩) (v := ?va13) rfl (by kernel_rfl) (by kernel_rfl) (by kernel_rfl) (by kernel_rfl) (fun _ _ _ h => h) (Or.inl ⟨by rfl, ?hya13⟩) ID.out ?resta13
  case hya13 => (intro w hSw; have q0 := hSw.cTk; have q1 := hSw.cPt; go_simp; try (with_reducible rfl))
  simp only [Act.put, List.setIfInBounds_toArray, List.set_cons_zero, List.set_cons_succ]
  refine AnyBut.take (i := 14) (oi := ⟨some 16, _, _, _, _, _⟩) (v := ?va14) rfl (by kernel_rfl) (by kernel_rfl) (by kernel_rfl) (by kernel_rfl) (fun _ _ _ h => h) (Or.inl ⟨by rfl, ?hya14⟩) ID.out ?resta14
  case hya14 => (intro w hSw; have q0 := hSw.cTk; have q1 := hSw.cPt; go_simp; try (with_reducible rfl))
  simp only [Act.put, List.setIfInBounds_toArray, List.set_cons_zero, List.set_cons_succ]
  refine AnyBut.take (i := 15) (oi := ⟨some 17, _, _, _, _, _⟩) (v := ?va15) rfl (by kernel_rfl) (by kernel_rfl) (by kernel_rfl) (by kernel_rfl) (fun _ _ _ h => h) (Or.inl ⟨by rfl, ?hya15⟩) ID.out ?resta15
  case hya15 => (intro w hSw; have q0 := hSw.cTk; have q1 := hSw.cPt; go_simp; try (with_reducible rfl))
  simp only [Act.put, List.setIfInBounds_toArray, List.set_cons_zero, List.set_cons_succ]
  refine AnyBut.take (i := 16) (oi := ⟨some 18, _, _, _, _, _⟩) (v := ?va16) rfl (by kernel_rfl) (by kernel_rfl) (by kernel_rfl) (by kernel_rfl) (fun _ _ _ h => h) (Or.inl ⟨by rfl, ?hya16⟩) ID.out ?resta16
  case hya16 => (intro w hSw; have q0 := hSw.cTk; have q1 := hSw.cPt; go_simp; try (with_reducible rfl))
  simp only [Act.put, List.setIfInBounds_toArray, List.set_cons_zero, List.set_cons_succ]
  refine AnyBut.take (i := 17) (oi := ⟨some 19, _, _, _, _, _⟩) (v := .agg (succI i).list.toArray) rfl (by kernel_rfl) (by kernel_rfl) (by kernel_rfl) (by kernel_rfl) (fun _ _ _ h => h) ?yba17 ID.out ?resta17
  case yba17 =>
    refine yieldsIf_build_to (by rfl) 89 _ rfl _ ?_
    exact (congrArg (Program.built Try.prog 89) (by rfl)).trans ((built_succ i))
  simp only [Act.put, List.setIfInBounds_toArray, List.set_cons_zero, List.set_cons_succ]
  refine AnyBut.take (i := 18) (oi := ⟨some 20, _, _, _, _, _⟩) (v := ?va18) rfl (by kernel_rfl) (by kernel_rfl) (by kernel_rfl) (by kernel_rfl) (fun _ _ _ h => h) (Or.inl ⟨by rfl, ?hya18⟩) ID.out ?resta18
  case hya18 => (intro w hSw; have q0 := hSw.cTk; have q1 := hSw.cPt; go_simp; try (with_reducible rfl))
  simp only [Act.put, List.setIfInBounds_toArray, List.set_cons_zero, List.set_cons_succ]
  refine AnyBut.one (i := 19) (o := ⟨none, _, _, _, _, _⟩) (by kernel_rfl) rfl (fun K hK => ?_)
  rw [if_pos (by rfl)]
  refine wp_store_mid 89 (.tmp 20) (.tmp 19) rfl b 0 (succI i).list.toArray rfl rfl TD.out insInfo (succ_one i) ?_
  refine hK.out _ _ (fun h => absurd rfl h) ?_
  clear hK K
  try simp only [Act.put]
  refine AnyBut.done (by kernel_rfl) ?_ _
  go_wp2
  go_end0
  exact ⟨rfl, LD.out, KD.out⟩

open Go.RowKit

theorem ErrF.erv {w : World} {v : Value} {e : Int} (h : ErrF w v e) : ErV v := by
  rcases h with ⟨-, h⟩ | ⟨-, h | ⟨b, pl, x, h, -⟩⟩
  · exact .inl h
  · exact .inr ⟨_, _, h⟩
  · exact .inr ⟨_, _, h⟩
theorem ErrF.nil {w : World} {v : Value} {e : Int} (h : ErrF w v e) (h0 : e = 0) : v = .nilIface := by
  rcases h with ⟨-, h⟩ | ⟨h, -⟩
  · exact h
  · exact absurd h0 h
theorem ErrF.ifc {w : World} {v : Value} {e : Int} (h : ErrF w v e) (h0 : e ≠ 0) : ∃ t x, v = .iface t x := by
  rcases h with ⟨h, -⟩ | ⟨-, h | ⟨b, pl, x, h, -⟩⟩
  · exact absurd h h0
  · exact ⟨_, _, h⟩
  · exact ⟨_, _, h⟩
theorem ErrF.kept {w w' : World} {v : Value} {e : Int} (h : ErrF w v e) {S : Nat → Prop} (hk : Kept S w w') (hn : ∀ b, S b → ∀ cs, w.heap[b]? ≠ some (.cells cs 126 (0, 0))) : ErrF w' v e := by
  rcases h with h | ⟨h0, h | ⟨b', pl, x, h1, h2⟩⟩
  · exact .inl h
  · exact .inr ⟨h0, .inl h⟩
  · exact .inr ⟨h0, .inr ⟨b', pl, x, h1, (hk.block b' (Array.getElem?_eq_some_iff.1 h2).1 (fun hs => hn b' hs _ h2)).trans h2⟩⟩
/-- what a step may turn: the memory's blocks and the installer's -/
def US (m : MB) (S : Nat → Prop) (b : Nat) : Nat → Prop := fun j => MS m S j ∨ j = b
theorem US.ms {m : MB} {S : Nat → Prop} {b : Nat} {w w' : World} (hk : Kept (MS m S) w w') : Kept (US m S b) w w' := hk.wide fun _ _ h => .inl h
theorem US.one {m : MB} {S : Nat → Prop} {b : Nat} {w w' : World} (hk : Kept (fun j => j = b) w w') : Kept (US m S b) w w' := hk.wide fun _ _ h => .inr h
theorem MemAt.off1 {w w' : World} {m : MB} {S : Nat → Prop} {l : LimN} {k : Int} {ps : List Pt} {L : List Pg} {c : Ck} (h : MemAt w m S l k ps L c) {b : Nat} (hk : Kept (fun j => j = b) w w') (hb : ¬ MS m S b) : MemAt w' m S l k ps L c := h.keep hk fun j hj e => hb (e ▸ hj)
theorem InsAt.fault {w : World} {b : Nat} {i : Ins} (h : InsAt w b i) : ∀ j, j = b → ∀ cs, w.heap[j]? ≠ some (.cells cs 126 (0, 0)) := fun j e cs hc => by
  subst e
  exact absurd (blk_ne hc h.blk (by decide)) (fun h => h rfl)
def takeI (i : Ins) (x : Int) : Ins := { i with pg := upd i.pg i.tk x, tk := i.tk + 1 }
set_option maxRecDepth 100000 in
set_option maxHeartbeats 4000000 in
theorem iTake_any (w : World) (b : Nat) (i : Ins) (m : MB) (S : Nat → Prop) (l : LimN) (k : Int) (ps : List Pt) (L : List Pg) (c : Ck) (hi : InsAt w b i) (h : MemAt w m S l k ps L c) (hb : ¬ MS m S b) (h4 : i.tk < 4) :
    Calls Try.prog 39 #[.pointer (some ⟨b, 0, none⟩), .pointer (some ⟨m.mb, 0, none⟩)] w fun ev w' => ev = .returned (.tuple #[]) ∧ MemAt w' m S l (inc k) ps (takeL L) c ∧ Kept (US m S b) w w' ∧
      ((takeE L = 0 ∧ InsAt w' b (takeI i (takeN L : Int))) ∨ (takeE L ≠ 0 ∧ ∃ v, ErrF w' v (takeE L) ∧ InsAt w' b (undoI i v))) := by
  have I0 := Lib.hid hi
  have M0 := Lib.hid h
  have HB := Lib.hid hb
  have H4 := Lib.hid h4
  clear hi h hb h4
  go_enter Try.func39, Try.ntmps39
  go_wp2_with fail
  refine (nTake_any _ m S l k ps L c M0.out).mono ?_
  rintro ev w1 ⟨v, rfl, he, hM, hk⟩
  have M1 := Lib.hid hM
  have K1 := Lib.hid (US.ms (b := b) hk)
  have I1 := Lib.hid (I0.out.keep hk HB.out)
  have E1 := Lib.hid he
  clear hM hk
  by_cases h0 : takeE L = 0
  · rw [he.nil h0]
    have HE := Lib.hid h0
    clear h0 he
    go_wp2_with fail
    have ID := Lib.hid (I1.out.step (Below.refl _ _).drew)
    have MD := Lib.hid (M1.out.low (Below.refl _ _).drew)
    have KD := Lib.hid K1.out.drew
    have FZ := Lib.hid (ID.out.free (6 + i.tk))
    have CP := Lib.hid (ID.out.cPg H4.out)
    have hx : (0 : Int) ≤ (i.tk : Int) ∧ (i.tk : Int) < 4 := by have := H4.out; omega
    refine AnyBut.region (fun w' => InsAt w' b i) 9 (by kernel_rfl) ?_
    generalize w1.drew = wd at *
    refine AnyBut.take (i := 0) (oi := ⟨some 16, _, _, _, _, _⟩) (v := ?va0) rfl (by kernel_rfl) (by kernel_rfl) (by kernel_rfl) (by kernel_rfl) (fun _ _ _ h => h) (Or.inl ⟨by rfl, ?hya0⟩) ID.out ?resta0
    case hya0 => (intro w hSw; have q0 := hSw.cTk; go_simp; try (with_reducible rfl))
    simp only [Act.put, List.setIfInBounds_toArray, List.set_cons_zero, List.set_cons_succ]
    refine AnyBut.take (i := 1) (oi := ⟨some 17, _, _, _, _, _⟩) (v := ?va1) rfl (by kernel_rfl) (by kernel_rfl) (by kernel_rfl) (by kernel_rfl) (fun _ _ _ h => h) (Or.inl ⟨by rfl, ?hya1⟩) ID.out ?resta1
    case hya1 => (intro w hSw; have q0 := hSw.cTk; go_simp; try (with_reducible rfl))
    simp only [Act.put, List.setIfInBounds_toArray, List.set_cons_zero, List.set_cons_succ]
    refine AnyBut.take (i := 2) (oi := ⟨some 18, _, _, _, _, _⟩) (v := ?va2) rfl (by kernel_rfl) (by kernel_rfl) (by kernel_rfl) (by kernel_rfl) (fun _ _ _ h => h) (Or.inl ⟨by rfl, ?hya2⟩) ID.out ?resta2
    case hya2 => (intro w hSw; have q0 := hSw.cTk; go_simp; try (with_reducible rfl))
    simp only [Act.put, List.setIfInBounds_toArray, List.set_cons_zero, List.set_cons_succ]
    refine AnyBut.take (i := 3) (oi := ⟨some 19, _, _, _, _, _⟩) (v := ?va3) rfl (by kernel_rfl) (by kernel_rfl) (by kernel_rfl) (by kernel_rfl) (fun _ _ _ h => h) (Or.inl ⟨by rfl, ?hya3⟩) ID.out ?resta3
    case hya3 => (intro w hSw; have q0 := hSw.cTk; go_simp; try (with_reducible rfl))
    simp only [Act.put, List.setIfInBounds_toArray, List.set_cons_zero, List.set_cons_succ]
    refine AnyBut.take (i := 4) (oi := ⟨some 20, _, _, _, _, _⟩) (v := ?va4) rfl (by kernel_rfl) (by kernel_rfl) (by kernel_rfl) (by kernel_rfl) (fun _ _ _ h => h) (Or.inl ⟨by rfl, ?hya4⟩) ID.out ?resta4
    case hya4 => (intro w hSw; have q0 := hSw.cTk; go_simp; try (with_reducible rfl))
    simp only [Act.put, List.setIfInBounds_toArray, List.set_cons_zero, List.set_cons_succ]
    refine AnyBut.take (i := 5) (oi := ⟨some 21, _, _, _, _, _⟩) (v := ?va5) rfl (by kernel_rfl) (by kernel_rfl) (by kernel_rfl) (by kernel_rfl) (fun _ _ _ h => h) (Or.inl ⟨by rfl, ?hya5⟩) ID.out ?resta5
    case hya5 => (intro w hSw; have q0 := hSw.cTk; go_simp; try (with_reducible rfl))
    simp only [Act.put, List.setIfInBounds_toArray, List.set_cons_zero, List.set_cons_succ]
    refine AnyBut.one (i := 6) (o := ⟨some 22, _, _, _, _, _⟩) (by kernel_rfl) rfl (fun K hK => ?_)
    rw [if_pos (by rfl)]
    have q0 := ID.out.cTk
    go_simp
    refine hK.out _ _ (fun _ => ID.out) ?_
    clear hK K
    try simp only [Act.put, List.setIfInBounds_toArray, List.set_cons_zero, List.set_cons_succ]
    refine AnyBut.one (i := 7) (o := ⟨some 23, _, _, _, _, _⟩) (by kernel_rfl) rfl (fun K hK => ?_)
    rw [if_pos (by rfl)]
    have q0 := ID.out.cTk
    go_simp
    refine hK.out _ _ (fun _ => ID.out) ?_
    clear hK K
    try simp only [Act.put, List.setIfInBounds_toArray, List.set_cons_zero, List.set_cons_succ]
    refine AnyBut.take (i := 8) (oi := ⟨some 24, _, _, _, _, _⟩) (v := ?va8) rfl (by kernel_rfl) (by kernel_rfl) (by kernel_rfl) (by kernel_rfl) (fun _ _ _ h => h) (Or.inl ⟨by rfl, ?hya8⟩) ID.out ?resta8
    case hya8 => (intro w hSw; have q0 := hSw.cTk; go_simp; try (with_reducible rfl))
    simp only [Act.put, List.setIfInBounds_toArray, List.set_cons_zero, List.set_cons_succ]
    refine AnyBut.one (i := 9) (o := ⟨none, _, _, _, _, _⟩) (by kernel_rfl) rfl (fun K hK => ?_)
    rw [if_pos (by rfl)]
    have c1 := CP.out
    have c2 := FZ.out
    go_simp
    refine hK.out _ _ (fun h => absurd rfl h) ?_
    clear hK K
    try simp only [Act.put]
    refine AnyBut.done (by kernel_rfl) ?_ _
    have I2 := Lib.hid (ID.out.sPg (takeN L : Int) H4.out)
    have Kb := Lib.hid ((Kept.refl (fun j => j = b) wd).setCell (6 + i.tk) (.int .i64 (takeN L : Int)))
    have M2 := Lib.hid (MD.out.off1 Kb.out HB.out)
    have K2 := Lib.hid (KD.out.trans (US.one (m := m) (S := S) Kb.out))
    generalize hW : wd.setCell ⟨b, 6 + i.tk, none⟩ (.int .i64 (takeN L : Int)) = W at *
    clear hW
    have y1 := I2.out.cTk
    have y2 := I2.out.free 95
    have hw : IntKind.i64.wrap ((i.tk : Int) + 1) = ((i.tk + 1 : Nat) : Int) := by rw [Go.IntWalk.i64_in _ (by have := H4.out; omega)]; omega
    have I3 := Lib.hid (I2.out.sTk (i.tk + 1))
    have Kc := Lib.hid ((Kept.refl (fun j => j = b) W).setCell 95 (.int .i64 ((i.tk + 1 : Nat) : Int)))
    have M3 := Lib.hid (M2.out.off1 Kc.out HB.out)
    have K3 := Lib.hid (K2.out.trans (US.one (m := m) (S := S) Kc.out))
    go_wp2
    go_end0
    exact ⟨rfl, M3.out, K3.out, .inl ⟨HE.out, I3.out⟩⟩
  · obtain ⟨t, x, rfl⟩ := he.ifc h0
    have HE := Lib.hid h0
    clear h0 he
    go_wp2_with fail
    refine (undo_any _ b i _ E1.out.erv I1.out).mono ?_
    rintro ev w2 ⟨rfl, hI, hk⟩
    have I2 := Lib.hid hI
    have M2 := Lib.hid (M1.out.off1 hk HB.out)
    have E2 := Lib.hid (E1.out.kept hk I1.out.fault)
    have K2 := Lib.hid (K1.out.trans (US.one (m := m) (S := S) hk))
    clear hI hk
    go_wp2
    refine bodyPost_ret (results_none rfl _ _ _) rfl ?_
    exact ⟨rfl, M2.out, K2.out, .inr ⟨HE.out, _, E2.out, I2.out⟩⟩
end Go.Proofs.Ytaiaaljahnackaa
