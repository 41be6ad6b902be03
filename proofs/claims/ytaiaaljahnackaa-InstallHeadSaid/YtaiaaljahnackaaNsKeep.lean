/- Package install's keep, by contract. -/
import Derived.Test.YtaiaaljahnackaaNsOwn
namespace Go.Proofs.Ytaiaaljahnackaa
open Go.RowKit

section
variable {P : Program}
theorem wpList_store_to {ops : Array Oper} {rest : List Oper} {op : Oper} {a : Act} {w : World} {Q : Exit → Act → World → Prop} (hgd : op.guard = none) (ty : TypeId) (x y : Operand) (ho : op.op = .store ty x y)
    (b o : Nat) (cs : List Value) (hx : a.eval x = .pointer (some ⟨b, o, none⟩)) (hy : a.eval y = .agg cs.toArray)
    (ht : w.there b o cs.length) (hi : (P.info? ty).map (·.size) = some cs.length) (h1 : cs.toArray.all (·.oneCell') = true)
    (h : ∀ W, W = w.setCells b o cs → wpList P ops Q rest (a.put op.dst undef) W) : wpList P ops Q (op :: rest) a w :=
  wpList_store_mid hgd ty x y ho b o cs.toArray hx hy (by simpa using ht) (by simpa using hi) h1 (h _ rfl)
theorem wp_store_to {op : Oper} {a : Act} {w : World} {K : Act → World → Prop} {Q : Exit → Act → World → Prop} (ty : TypeId) (x y : Operand) (ho : op.op = .store ty x y)
    (b o : Nat) (cs : List Value) (hx : a.eval x = .pointer (some ⟨b, o, none⟩)) (hy : a.eval y = .agg cs.toArray)
    (ht : w.there b o cs.length) (hi : (P.info? ty).map (·.size) = some cs.length) (h1 : cs.toArray.all (·.oneCell') = true)
    (h : ∀ W, W = w.setCells b o cs → K (a.put op.dst undef) W) : op.wp P a w K Q :=
  wp_store_mid ty x y ho b o cs.toArray hx hy (by simpa using ht) (by simpa using hi) h1 (h _ rfl)
end
theorem refInfoS : (Try.prog.info? 34).map (·.size) = some 2 := by kernel_rfl
theorem rec_there2 {w : World} {b : Nat} {sc : Sc} {rv en : Value} (h : w.heap[b]? = some (recObj sc rv en)) : w.there b 13 2 := blk_thereN (cs := (recCells sc rv en).toArray) h 13 2 (Nat.le_refl 15)
theorem rec_set2 {w : World} {b : Nat} {d : RecD} {rv en : Value} (h : w.heap[b]? = some (recObj d.sc rv en)) : (w.setCells b 13 [.int .i64 0, .int .i64 0]).heap[b]? = some (recObj { d.sc with ns := 0, ng := 0 } rv en) := blk_set_two (cs := (recCells d.sc rv en).toArray) h 13 _ _
theorem n_there_new (w : World) (zs : Array Value) (ty : TypeId) : (w.alloc (.cells zs ty)).there w.heap.size 0 zs.size := fun j hj => by
  refine ⟨?_, World.frozen?_alloc_at _ _ _ _ rfl⟩
  rw [World.cell?_alloc_at _ _ _ _ rfl, Nat.zero_add]
  simp [hj]
/-- a slice's row lies apart from T, and is there -/
def OutL (w : World) (T : Nat → Prop) (v : Value) : Prop := ∀ a n c, v = .slice (some a) n c → ¬ T a.block ∧ a.block < w.heap.size
/-- cells that read as a record that lies apart from T -/
def RecL (w : World) (T : Nat → Prop) (cs : List Value) (d : RecD) : Prop :=
  ∃ ra rn rc ea en ec, cs = recCells d.sc (.slice ra rn rc) (.slice ea en ec) ∧ RecV w (recVal d.sc (.slice ra rn rc) (.slice ea en ec)) d ∧ OutL w T (.slice ra rn rc) ∧ OutL w T (.slice ea en ec) ∧ d.rows.length ≤ 1000 ∧ d.ents.length ≤ 1000
theorem OutL.out {w : World} {T S : Nat → Prop} {v : Value} (h : OutL w T v) (hs : ∀ k, S k → T k) : Out S v := fun a n c e ht => (h a n c e).1 (hs _ ht)
theorem OutL.grow {w w' : World} {T T' : Nat → Prop} {v : Value} (h : OutL w T v) (hl : w.heap.size ≤ w'.heap.size) (hT : ∀ k, T' k → T k ∨ w.heap.size ≤ k) : OutL w' T' v := fun a n c e => by
  obtain ⟨h1, h2⟩ := h a n c e
  exact ⟨fun ht => (hT _ ht).elim h1 (fun h3 => by omega), by omega⟩
theorem RecL.grow {w w' : World} {T T' T0 : Nat → Prop} {cs : List Value} {d : RecD} (h : RecL w T cs d) (hk : Kept T0 w w') (h0 : ∀ k, T0 k → T k) (hT : ∀ k, T' k → T k ∨ w.heap.size ≤ k) : RecL w' T' cs d := by
  obtain ⟨ra, rn, rc, ea, en, ec, h1, h2, h3, h4, h5⟩ := h
  exact ⟨ra, rn, rc, ea, en, ec, h1, h2.kept hk (h3.out h0) (h4.out h0), h3.grow hk.size hT, h4.grow hk.size hT, h5⟩
theorem RecL.inn {w : World} {T S : Nat → Prop} {cs : List Value} {d : RecD} (h : RecL w T cs d) (hs : ∀ k, S k → T k) : RecIn w S cs d := by
  obtain ⟨ra, rn, rc, ea, en, ec, h1, h2, h3, h4, h5⟩ := h
  exact ⟨ra, rn, rc, ea, en, ec, h1, h2, h3.out hs, h4.out hs, h5⟩
theorem OwnS.outL {α : Type} {E : Lay α} {base : Nat} {w : World} {a : Option Addr} {n c : Nat} {xs : List α} (h : OwnS E base w (.slice a n c) xs) {T : Nat → Prop} (hT : ∀ k, T k → k < base) : OutL w T (.slice a n c) := fun x m d e => by
  obtain ⟨rfl, rfl, rfl⟩ := Value.slice.inj e
  have := h.bounds x.block rfl
  exact ⟨fun ht => by have := hT _ ht; omega, this.2⟩
theorem RecL.zero (w : World) (T : Nat → Prop) : RecL w T (recCells Sc.zero (.slice none 0 0) (.slice none 0 0)) RecD.zero :=
  ⟨none, 0, 0, none, 0, 0, rfl, RecV.zero w, (fun _ _ _ e => by cases e), (fun _ _ _ e => by cases e), by decide, by decide⟩
/-- a record without its Next -/
def RecD.bare (d : RecD) : RecD := { d with sc := { d.sc with ns := 0, ng := 0 } }
/-- the records that an installer keeps -/
def recsM (ds : List RecD) (hd : RecD) (n k : Nat) : RecD := if k = n then hd else ((ds[k]?).map RecD.bare).getD RecD.zero
def rcLf (rc : Nat → Nat → Value) (k : Nat) : List Value := [rc k 0, rc k 1, rc k 2, rc k 3, rc k 4, rc k 5, rc k 6, rc k 7, rc k 8, rc k 9, rc k 10, rc k 11, rc k 12, rc k 13, rc k 14]
theorem rcLf_eq (i : Ins) (k : Nat) : i.rcL k = rcLf i.rc k := rfl
theorem rcLf_upd (rc : Nat → Nat → Value) (k : Nat) (v : Nat → Value) : rcLf (upd rc k v) k = [v 0, v 1, v 2, v 3, v 4, v 5, v 6, v 7, v 8, v 9, v 10, v 11, v 12, v 13, v 14] := by unfold rcLf; simp only [upd_at]
theorem rcLf_ne (rc : Nat → Nat → Value) {k j : Nat} (v : Nat → Value) (h : j ≠ k) : rcLf (upd rc k v) j = rcLf rc j := by unfold rcLf; simp only [upd_ne _ _ h]
theorem rcLf_zero : rcLf (fun _ => rcZ) = fun _ => recCells Sc.zero (.slice none 0 0) (.slice none 0 0) := rfl
/-- the cells of a record by their numbers -/
def rcOf (cs : List Value) (o : Nat) : Value := cs.getD o undef
theorem rcOf_list (s : Sc) (rv en : Value) : [rcOf (recCells s rv en) 0, rcOf (recCells s rv en) 1, rcOf (recCells s rv en) 2, rcOf (recCells s rv en) 3, rcOf (recCells s rv en) 4, rcOf (recCells s rv en) 5, rcOf (recCells s rv en) 6, rcOf (recCells s rv en) 7, rcOf (recCells s rv en) 8, rcOf (recCells s rv en) 9, rcOf (recCells s rv en) 10, rcOf (recCells s rv en) 11, rcOf (recCells s rv en) 12, rcOf (recCells s rv en) 13, rcOf (recCells s rv en) 14] = recCells s rv en := rfl
theorem SV.range {α : Type} {E : Lay α} {w : World} {b off n cap : Nat} {xs : List α} (h : SV E w (.slice (some ⟨b, off, none⟩) n cap) xs) {i : Nat} {x : α} (hi : xs[i]? = some x) : w.rangeAt b (off + i * E.sz) (E.enc x) := fun j u hj => h.cellAt hi hj
/-- records that came in, apart from T -/
structure RecsV (w : World) (T : Nat → Prop) (v : Value) (bs : List RcL) (ds : List RecD) : Prop where
  sv : SV lRec w v bs
  out : Out T v
  len : bs.length = ds.length
  lim : bs.length ≤ 1000
  each : ∀ (j : Nat) (x : RcL) (d : RecD), bs[j]? = some x → ds[j]? = some d → RecIn w T x.cells d
theorem RecsV.kept {w w' : World} {T : Nat → Prop} {v : Value} {bs : List RcL} {ds : List RecD} (h : RecsV w T v bs ds) (hk : Kept T w w') : RecsV w' T v bs ds :=
  ⟨h.sv.kept hk h.out, h.out, h.len, h.lim, fun j x d h1 h2 => (h.each j x d h1 h2).kept hk fun _ h => h⟩
theorem RecsV.low {w w' : World} {T : Nat → Prop} {v : Value} {bs : List RcL} {ds : List RecD} (h : RecsV w T v bs ds) (hk : Below w.heap.size w w') : RecsV w' T v bs ds := h.kept (Kept.of_below hk)
set_option maxRecDepth 100000 in
set_option maxHeartbeats 4000000 in
theorem iKeep_any (w : World) (b : Nat) (i : Ins) (T : Nat → Prop) (hT : ∀ k, T k → k < w.heap.size) (hTb : T b) (v : Value) (bs : List RcL) (ds : List RecD) (hd : RecD) (hra : Option Addr) (hrn hrc : Nat) (hea : Option Addr) (hen hec : Nat) (hi : InsAt w b i) (hz : i.rc = fun _ => rcZ) (hn : i.news ≤ 4)
    (hv : RecsV w (fun k => k = b) v bs ds) (hh : RecV w (recVal hd.sc (.slice hra hrn hrc) (.slice hea hen hec)) hd) (ho1 : Out (fun k => k = b) (.slice hra hrn hrc)) (ho2 : Out (fun k => k = b) (.slice hea hen hec)) (hl1 : hd.rows.length ≤ 1000) (hl2 : hd.ents.length ≤ 1000) :
    Calls Try.prog 60 #[.pointer (some ⟨b, 0, none⟩), v, recVal hd.sc (.slice hra hrn hrc) (.slice hea hen hec)] w fun ev w' => ev = .returned (.tuple #[]) ∧ Kept (fun k => k = b) w w' ∧ ∃ rc', InsAt w' b { i with rc := rc' } ∧ ∀ k, k ≤ i.news → RecL w' T (rcLf rc' k) (recsM ds hd i.news k) := by
  obtain ⟨la, lc, rfl, hlc, hcm⟩ := hv.sv.lenform
  obtain ⟨W0, hW0⟩ : ∃ W, W = w.alloc (recObj hd.sc (.slice hra hrn hrc) (.slice hea hen hec)) := ⟨_, rfl⟩
  have b0 : Below w.heap.size w W0 := by rw [hW0]; exact alloc_below0 _ _
  have h0 : W0.heap[w.heap.size]? = some (recObj hd.sc (.slice hra hrn hrc) (.slice hea hen hec)) := by rw [hW0]; exact blk_new _ _
  have I0 := Lib.hid (show InsAt W0 b { i with rc := fun _ => rcZ } by have := hi.step b0; rw [← hz]; exact this)
  have B0 := Lib.hid b0
  have H0 := Lib.hid h0
  have R0 := Lib.hid (hv.low b0)
  have HH := Lib.hid (show RecV W0 (recVal hd.sc (.slice hra hrn hrc) (.slice hea hen hec)) hd ∧ Out (fun k => k = b) (.slice hra hrn hrc) ∧ Out (fun k => k = b) (.slice hea hen hec) ∧ hd.rows.length ≤ 1000 ∧ hd.ents.length ≤ 1000 from ⟨hh.below b0, ho1, ho2, hl1, hl2⟩)
  have HN := Lib.hid hn
  have HT := Lib.hid hT
  have HTb := Lib.hid hTb
  have LC := Lib.hid hlc
  have x3 := I0.out.cNews
  obtain ⟨q, hq⟩ : ∃ q, q = min bs.length i.news := ⟨_, rfl⟩
  have Q := Lib.hid hq
  have hq2 : min ((bs.length : Nat) : Int) ((i.news : Nat) : Int) = (q : Int) := by omega
  have hq3 : (q : Int) ≤ (lc : Int) := by omega
  have hq4 : (q : Int) ≤ 4 := by omega
  clear hT hTb hi hz hn hv hh ho1 ho2 hl1 hl2 b0 h0 hq hlc hcm
  unfold recVal
  unfold recObj at hW0
  go_enter Try.func60, Try.ntmps60
  go_upto_region 1 with (fail)
  rw [← hW0]
  clear hW0
  have LA := Lib.hid (show la = none → q = 0 from fun e => by subst e; have := Q.out; by_cases h0 : bs.length = 0; · omega
                                                              · obtain ⟨_, _, h⟩ := R0.out.sv.addr h0; cases h)
  go_cut [17, 18, 19] from 8 to 20 (fun s17 s18 s19 wc => s17 = .slice la q lc ∧ s18 = .int .i64 (q : Int) ∧ s19 = .int .i64 0 ∧ wc = W0)
  case first =>
    by_cases hm : bs.length ≤ i.news
    · obtain rfl : q = bs.length := by have := Q.out; omega
      go_wp2_with fail
      all_goals (go_meet; case rel => exact ⟨rfl, rfl, rfl, rfl⟩)
    · obtain rfl : q = i.news := by have := Q.out; omega
      go_wp2_with fail
      all_goals (go_meet; case rel => exact ⟨rfl, rfl, rfl, rfl⟩)
  case rest =>
    obtain ⟨rfl, rfl, rfl, rfl⟩ := hcut
    go_wp2_with fail
    go_loopg [19] q (fun g v19 wr => ∃ (k : Nat) (rc : Nat → Nat → Value), k + g = q ∧ v19 = .int .i64 (k : Int) ∧ InsAt wr b { i with rc := rc } ∧ (∀ j, j < k → RecL wr T (rcLf rc j) ((ds[j]?.map RecD.bare).getD RecD.zero)) ∧ (∀ j, k ≤ j → rcLf rc j = recCells Sc.zero (.slice none 0 0) (.slice none 0 0)) ∧ Kept (fun k => k = b) wc wr)
    case atStart => exact ⟨0, fun _ => rcZ, by omega, rfl, I0.out, (fun j hj => by omega), (fun _ _ => rfl), Kept.refl _ _⟩
    case round =>
      clear x3
      obtain ⟨k, rc, hk, rfl, hI, hR, hZ, hK⟩ := hrel
      have I1 := Lib.hid hI
      have K1 := Lib.hid hK
      have RR := Lib.hid hR
      have ZZ := Lib.hid hZ
      have G1 := Lib.hid hk
      clear hI hK hR hZ hk
      by_cases hkq : k < q
      · obtain ⟨g, rfl⟩ : ∃ g, gk = g + 1 := ⟨gk - 1, by have := G1.out; omega⟩
        have V1 := Lib.hid (R0.out.kept K1.out)
        obtain ⟨x, hx⟩ : ∃ x, bs[k]? = some x := ⟨_, List.getElem?_eq_getElem (by have := Q.out; omega)⟩
        obtain ⟨d, hd'⟩ : ∃ d, ds[k]? = some d := ⟨_, List.getElem?_eq_getElem (by have := Q.out; have := R0.out.len; omega)⟩
        obtain ⟨lb, lo, rfl⟩ := R0.out.sv.addr (by have := Q.out; omega)
        obtain ⟨ra, rn, rc1, ea, en, ec, hc, hv, ho1, ho2, hl1, hl2⟩ := V1.out.each k x d hx hd'
        have RG := Lib.hid (show wr.rangeAt lb (lo + k * 15) (recCells d.sc (.slice ra rn rc1) (.slice ea en ec)) from hc ▸ V1.out.sv.range hx)
        have VV := Lib.hid hv
        have HL := Lib.hid (show d.rows.length ≤ 1000 ∧ d.ents.length ≤ 1000 from ⟨hl1, hl2⟩)
        have HD := Lib.hid (show ds[k]?.map RecD.bare = some d.bare by rw [hd']; rfl)
        have KQ := Lib.hid hkq
        clear hx hd' hc hv ho1 ho2 hl1 hl2
        have hkq1 : (k : Int) < (q : Int) := by have := KQ.out; omega
        have hkq2 : k < q := KQ.out
        have TH1 := Lib.hid (show (wr.alloc (.cells #[.int .i64 0, .string ⟨#[]⟩, .string ⟨#[]⟩, .bool false, .int .i64 0, .slice none 0 0, .slice none 0 0, .string ⟨#[]⟩, .string ⟨#[]⟩, .int .i64 0, .int .i64 0, .int .i64 0, .string ⟨#[]⟩, .int .i64 0, .int .i64 0] 44)).there wr.heap.size 0 15 from n_there_new wr _ _)
        have LD := Lib.hid (show ((wr.alloc (.cells #[.int .i64 0, .string ⟨#[]⟩, .string ⟨#[]⟩, .bool false, .int .i64 0, .slice none 0 0, .slice none 0 0, .string ⟨#[]⟩, .string ⟨#[]⟩, .int .i64 0, .int .i64 0, .int .i64 0, .string ⟨#[]⟩, .int .i64 0, .int .i64 0] 44)).setCells wr.heap.size 0 (recCells d.sc (.slice ra rn rc1) (.slice ea en ec))).heap[wr.heap.size]? = some (recObj d.sc (.slice ra rn rc1) (.slice ea en ec)) from list_laid (recCells d.sc (.slice ra rn rc1) (.slice ea en ec)) (blk_new wr _) rfl)
        have BW := Lib.hid (show Below wr.heap.size wr ((wr.alloc (.cells #[.int .i64 0, .string ⟨#[]⟩, .string ⟨#[]⟩, .bool false, .int .i64 0, .slice none 0 0, .slice none 0 0, .string ⟨#[]⟩, .string ⟨#[]⟩, .int .i64 0, .int .i64 0, .int .i64 0, .string ⟨#[]⟩, .int .i64 0, .int .i64 0] 44)).setCells wr.heap.size 0 (recCells d.sc (.slice ra rn rc1) (.slice ea en ec))) from below_setCells (Nat.le_refl wr.heap.size) (recCells d.sc (.slice ra rn rc1) (.slice ea en ec)) 0 _ (alloc_below0 wr _))
        go_wp2_with (first | (refine wpList_load_mid rfl 44 (.tmp 22) rfl lb (lo + k * 15) rfl (recCells d.sc (.slice ra rn rc1) (.slice ea en ec)) _ ?_ Try.underlying44 rfl recInfoS ?_; exact RG.out) | (refine wpList_store_to rfl 44 (.tmp 7) (.tmp 23) rfl wr.heap.size 0 (recCells d.sc (.slice ra rn rc1) (.slice ea en ec)) rfl rfl ?_ recInfoS (rec_one ..) ?_; exact TH1.out; intro W2 hW2; have L2 := Lib.hid (show W2.heap[wr.heap.size]? = some (recObj d.sc (.slice ra rn rc1) (.slice ea en ec)) by rw [hW2]; exact LD.out); have B2 := Lib.hid (show Below wr.heap.size wr W2 by rw [hW2]; exact BW.out); have T2 := Lib.hid (rec_there2 L2.out); clear hW2) | (refine wpList_store_to rfl 34 (.tmp 25) (.tmp 24) rfl wr.heap.size 13 [.int .i64 0, .int .i64 0] rfl rfl ?_ refInfoS (by kernel_rfl) ?_; exact T2.out; intro W3 hW3; have L3 := Lib.hid (show W3.heap[wr.heap.size]? = some (recObj d.bare.sc (.slice ra rn rc1) (.slice ea en ec)) by rw [hW3]; exact rec_set2 L2.out); have B3 := Lib.hid (show Below wr.heap.size wr W3 by rw [hW3]; exact below_setCells (Nat.le_refl _) _ 13 _ B2.out); clear hW3))
        try simp only [Act.put]
        go_wp2_with fail
        have I3 := Lib.hid (I1.out.step B3.out)
        have V3 := Lib.hid (show RecV W3 (recVal d.bare.sc (.slice ra rn rc1) (.slice ea en ec)) d.bare from ⟨_, _, rfl, VV.out.parts.2.1.below B3.out, VV.out.parts.2.2.below B3.out⟩)
        have K3 := Lib.hid (K1.out.trans (Kept.of_below B3.out))
        have ID := Lib.hid (I3.out.step (Below.refl _ _).drew)
        have VD := Lib.hid (V3.out.below (Below.refl _ _).drew)
        have KD := Lib.hid K3.out.drew
        have LX := Lib.hid (show W3.drew.heap[wr.heap.size]? = some (recObj d.bare.sc (.slice ra rn rc1) (.slice ea en ec)) from L3.out)
        have KW := Lib.hid ((Kept.of_below (S := fun k => k = b) B3.out).drew)
        have hk5 : (0 : Int) ≤ (k : Int) ∧ (k : Int) < 5 := by have := KQ.out; omega
        refine anyH_region (fun w' => w'.heap[wr.heap.size]? = some (recObj d.bare.sc (.slice ra rn rc1) (.slice ea en ec))) (by kernel_rfl) ?_
        generalize W3.drew = wd at *
        refine wpAnyH_take (i := 0) (oi := ⟨some 26, _, _, _, _, _⟩) (v := ?va0) rfl (by kernel_rfl) (by kernel_rfl) (by kernel_rfl) (fun _ _ _ h => h) (Or.inl ⟨by rfl, ?hya0⟩) LX.out ?resta0
        case hya0 => (intro w hSw; go_simp; try (with_reducible rfl))
        simp only [Act.put, List.setIfInBounds_toArray, List.set_cons_zero, List.set_cons_succ]
        refine wpAnyH_take (i := 1) (oi := ⟨some 27, _, _, _, _, _⟩) (v := ?va1) rfl (by kernel_rfl) (by kernel_rfl) (by kernel_rfl) (fun _ _ _ h => h) (Or.inl ⟨by rfl, ?hya1⟩) LX.out ?resta1
        case hya1 => (intro w hSw; go_simp; try (with_reducible rfl))
        simp only [Act.put, List.setIfInBounds_toArray, List.set_cons_zero, List.set_cons_succ]
        refine wpAnyH_take (i := 2) (oi := ⟨some 28, _, _, _, _, _⟩) (v := .agg (recCells d.bare.sc (.slice ra rn rc1) (.slice ea en ec)).toArray) rfl (by kernel_rfl) (by kernel_rfl) (by kernel_rfl) (fun _ _ _ h => h) (yieldsIf_load_mid (by rfl) 44 (.tmp 7) rfl wr.heap.size 0 rfl (recCells d.bare.sc (.slice ra rn rc1) (.slice ea en ec)) _ (fun w h => rec_range h) Try.underlying44 rfl recInfoS) LX.out ?resta2
        simp only [Act.put, List.setIfInBounds_toArray, List.set_cons_zero, List.set_cons_succ]
        refine wpAnyH_take (i := 4) (oi := ⟨some 30, _, _, _, _, _⟩) (v := ?va4) rfl (by kernel_rfl) (by kernel_rfl) (by kernel_rfl) (fun _ _ _ h => h) (Or.inl ⟨by rfl, ?hya4⟩) LX.out ?resta4
        case hya4 => (intro w hSw; go_simp; try (with_reducible rfl))
        simp only [Act.put, List.setIfInBounds_toArray, List.set_cons_zero, List.set_cons_succ]
        refine wpAnyH_take (i := 5) (oi := ⟨some 31, _, _, _, _, _⟩) (v := ?va5) rfl (by kernel_rfl) (by kernel_rfl) (by kernel_rfl) (fun _ _ _ h => h) (Or.inl ⟨by rfl, ?hya5⟩) LX.out ?resta5
        case hya5 => (intro w hSw; go_simp; try (with_reducible rfl))
        simp only [Act.put, List.setIfInBounds_toArray, List.set_cons_zero, List.set_cons_succ]
        refine anyH_one (i := 3) (o := ⟨some 29, _, _, _, _, _⟩) (by kernel_rfl) rfl (fun K hK => ?_)
        rw [if_pos (by rfl)]
        go_simp
        refine (iOwn_any _ d.bare ra rn rc1 ea en ec VD.out HL.out.1 HL.out.2).mono ?_
        rintro e4 w4 ⟨rv', en', rfl, ho1, ho2, hs⟩
        obtain ⟨a2, c2, rfl, -, -⟩ := ho1.sv.lenform
        obtain ⟨a3, c3, rfl, -, -⟩ := ho2.sv.lenform
        have O1 := Lib.hid ho1
        have O2 := Lib.hid ho2
        have I4 := Lib.hid (ID.out.step hs)
        have K4 := Lib.hid (KD.out.trans (Kept.of_below hs))
        have KW4 := Lib.hid (KW.out.trans (Kept.of_below hs))
        have LX4 := Lib.hid (blk_step LX.out hs)
        have BS4 := Lib.hid hs.size
        clear ho1 ho2 hs
        refine hK.out _ _ LX4.out ?_
        clear hK K
        try simp only [Act.put, List.setIfInBounds_toArray, List.set_cons_zero, List.set_cons_succ]
        refine anyH_one (i := 6) (o := ⟨some 32, _, _, _, _, _⟩) (by kernel_rfl) rfl (fun K hK => ?_)
        rw [if_pos (by rfl)]
        go_simp
        refine hK.out _ _ LX4.out ?_
        clear hK K
        try simp only [Act.put, List.setIfInBounds_toArray, List.set_cons_zero, List.set_cons_succ]
        refine anyH_one (i := 7) (o := ⟨none, _, _, _, _, _⟩) (by kernel_rfl) rfl (fun K hK => ?_)
        rw [if_pos (by rfl)]
        refine wp_store_to 44 (.tmp 32) (.tmp 29) rfl b (10 + k * 15) (recCells d.bare.sc (.slice a2 d.bare.rows.length c2) (.slice a3 d.bare.ents.length c3)) rfl rfl ?_ recInfoS (rec_one ..) ?_
        · exact blk_thereN I4.out.blk (10 + k * 15) 15 (show 10 + k * 15 + 15 ≤ 100 by omega)
        intro W5 hW5
        have I5 := Lib.hid (show InsAt W5 b { i with rc := upd rc k (rcOf (recCells d.bare.sc (.slice a2 d.bare.rows.length c2) (.slice a3 d.bare.ents.length c3))) } by rw [hW5]; exact I4.out.sRec (rcOf (recCells d.bare.sc (.slice a2 d.bare.rows.length c2) (.slice a3 d.bare.ents.length c3))) (show k < 5 by omega))
        have KB := Lib.hid (show Kept (fun k => k = b) w4 W5 by rw [hW5]; exact Kept.setCells _ _ w4 (Kept.refl _ _))
        have LX5 := Lib.hid ((KB.out.block _ (Array.getElem?_eq_some_iff.1 LX4.out).1 (show ¬ wr.heap.size = b by have := I1.out.lt; omega)).trans LX4.out)
        clear hW5
        refine hK.out _ _ LX5.out ?_
        clear hK K
        try simp only [Act.put]
        refine wpAnyH_done (by kernel_rfl) ?_ _
        try simp only [Act.put]
        have hw : IntKind.i64.wrap ((k : Int) + 1) = ((k + 1 : Nat) : Int) := by rw [Go.IntWalk.i64_in _ (by omega)]; omega
        have K5 := Lib.hid (K4.out.trans KB.out)
        have KW5 := Lib.hid (KW4.out.trans KB.out)
        have LB := Lib.hid (show ∀ j, T j → j < wd.heap.size from fun j hj => by have h1 := HT.out j hj; have h2 := B0.out.size; have h3 := K1.out.size; have h4 := KW.out.size; omega)
        have RN := Lib.hid (show RecL W5 T (rcLf (upd rc k (rcOf (recCells d.bare.sc (.slice a2 d.bare.rows.length c2) (.slice a3 d.bare.ents.length c3)))) k) d.bare by
          rw [rcLf_upd]
          have nb : ∀ j, j = b → j < wd.heap.size := fun j e => by subst e; exact ID.out.lt
          refine ⟨_, _, _, _, _, _, rcOf_list _ _ _, ⟨_, _, rfl, (O1.out.kept KB.out (fun a n c e hs => by have h1 := nb _ hs; have h2 := (O1.out.bounds a.block (by rw [e]; rfl)).1; omega)).sv, (O2.out.kept KB.out (fun a n c e hs => by have h1 := nb _ hs; have h2 := (O2.out.bounds a.block (by rw [e]; rfl)).1; omega)).sv⟩, ?_, ?_, HL.out.1, HL.out.2⟩
          · exact (O1.out.outL LB.out).grow KB.out.size (fun _ h => .inl h)
          · exact (O2.out.outL LB.out).grow KB.out.size (fun _ h => .inl h))
        go_wp2_with fail
        go_roundg g
        case measure => omega
        case rel =>
          have g1 := G1.out
          refine ⟨k + 1, _, by omega, rfl, I5.out, fun j hj => ?_, fun j hj => ?_, K5.out⟩
          · by_cases e : j = k
            · subst e
              rw [HD.out]
              exact RN.out
            · rw [rcLf_ne _ _ e]
              exact (RR.out j (by omega)).grow KW5.out (fun x e => e ▸ HTb.out) (fun _ h => .inl h)
          · rw [rcLf_ne _ _ (by omega)]
            exact ZZ.out j (by omega)
      · have hq5 : ¬ (k : Int) < (q : Int) := by omega
        have hkq9 : k = q := by have := G1.out; omega
        have E9 := Lib.hid hkq9
        have K9 := Lib.hid (Kept.drew K1.out)
        have b9 : b < w.heap.size := HT.out b HTb.out
        have H9 := Lib.hid (show wr.drew.heap[w.heap.size]? = some (recObj hd.sc (.slice hra hrn hrc) (.slice hea hen hec)) from (K1.out.block _ (Array.getElem?_eq_some_iff.1 H0.out).1 (by omega)).trans H0.out)
        have I9 := Lib.hid (I1.out.step (Below.refl _ _).drew)
        have V9 := Lib.hid ((HH.out.1.kept K1.out HH.out.2.1 HH.out.2.2.1).below (Below.refl _ _).drew)
        have S9 := Lib.hid (show wr.drew.cell? ⟨b, 3, none⟩ = some (.int .i64 (i.news : Int)) ∧ wr.drew.heap[w.heap.size]? = some (recObj hd.sc (.slice hra hrn hrc) (.slice hea hen hec)) from ⟨I9.out.cNews, H9.out⟩)
        have KR := Lib.hid ((Kept.refl (fun k => k = b) wr).drew)
        have hn5 : (0 : Int) ≤ (i.news : Int) ∧ (i.news : Int) < 5 := by have := HN.out; omega
        clear hkq9 b9
        go_wp2_with fail
        refine anyH_region (fun w' => w'.cell? ⟨b, 3, none⟩ = some (.int .i64 (i.news : Int)) ∧ w'.heap[w.heap.size]? = some (recObj hd.sc (.slice hra hrn hrc) (.slice hea hen hec))) (by kernel_rfl) ?_
        generalize wr.drew = wd at *
        refine wpAnyH_take (i := 0) (oi := ⟨some 34, _, _, _, _, _⟩) (v := ?vz0) rfl (by kernel_rfl) (by kernel_rfl) (by kernel_rfl) (fun _ _ _ h => h) (Or.inl ⟨by rfl, ?hyz0⟩) S9.out ?restz0
        case hyz0 => (intro w hSw; have q0 := hSw.1; go_simp; try (with_reducible rfl))
        simp only [Act.put, List.setIfInBounds_toArray, List.set_cons_zero, List.set_cons_succ]
        refine wpAnyH_take (i := 1) (oi := ⟨some 35, _, _, _, _, _⟩) (v := ?vz1) rfl (by kernel_rfl) (by kernel_rfl) (by kernel_rfl) (fun _ _ _ h => h) (Or.inl ⟨by rfl, ?hyz1⟩) S9.out ?restz1
        case hyz1 => (intro w hSw; have q0 := hSw.1; go_simp; try (with_reducible rfl))
        simp only [Act.put, List.setIfInBounds_toArray, List.set_cons_zero, List.set_cons_succ]
        refine wpAnyH_take (i := 2) (oi := ⟨some 36, _, _, _, _, _⟩) (v := ?vz2) rfl (by kernel_rfl) (by kernel_rfl) (by kernel_rfl) (fun _ _ _ h => h) (Or.inl ⟨by rfl, ?hyz2⟩) S9.out ?restz2
        case hyz2 => (intro w hSw; have q0 := hSw.1; go_simp; try (with_reducible rfl))
        simp only [Act.put, List.setIfInBounds_toArray, List.set_cons_zero, List.set_cons_succ]
        refine wpAnyH_take (i := 3) (oi := ⟨some 37, _, _, _, _, _⟩) (v := ?vz3) rfl (by kernel_rfl) (by kernel_rfl) (by kernel_rfl) (fun _ _ _ h => h) (Or.inl ⟨by rfl, ?hyz3⟩) S9.out ?restz3
        case hyz3 => (intro w hSw; have q0 := hSw.1; go_simp; try (with_reducible rfl))
        simp only [Act.put, List.setIfInBounds_toArray, List.set_cons_zero, List.set_cons_succ]
        refine wpAnyH_take (i := 4) (oi := ⟨some 38, _, _, _, _, _⟩) (v := ?vz4) rfl (by kernel_rfl) (by kernel_rfl) (by kernel_rfl) (fun _ _ _ h => h) (Or.inl ⟨by rfl, ?hyz4⟩) S9.out ?restz4
        case hyz4 => (intro w hSw; have q0 := hSw.1; go_simp; try (with_reducible rfl))
        simp only [Act.put, List.setIfInBounds_toArray, List.set_cons_zero, List.set_cons_succ]
        refine wpAnyH_take (i := 5) (oi := ⟨some 39, _, _, _, _, _⟩) (v := ?vz5) rfl (by kernel_rfl) (by kernel_rfl) (by kernel_rfl) (fun _ _ _ h => h) (Or.inl ⟨by rfl, ?hyz5⟩) S9.out ?restz5
        case hyz5 => (intro w hSw; have q0 := hSw.1; go_simp; try (with_reducible rfl))
        simp only [Act.put, List.setIfInBounds_toArray, List.set_cons_zero, List.set_cons_succ]
        refine wpAnyH_take (i := 6) (oi := ⟨some 40, _, _, _, _, _⟩) (v := .agg (recCells hd.sc (.slice hra hrn hrc) (.slice hea hen hec)).toArray) rfl (by kernel_rfl) (by kernel_rfl) (by kernel_rfl) (fun _ _ _ h => h) (yieldsIf_load_mid (by rfl) 44 (.tmp 5) rfl w.heap.size 0 rfl (recCells hd.sc (.slice hra hrn hrc) (.slice hea hen hec)) _ (fun w h => rec_range h.2) Try.underlying44 rfl recInfoS) S9.out ?restz6
        simp only [Act.put, List.setIfInBounds_toArray, List.set_cons_zero, List.set_cons_succ]
        refine wpAnyH_take (i := 8) (oi := ⟨some 42, _, _, _, _, _⟩) (v := ?vz8) rfl (by kernel_rfl) (by kernel_rfl) (by kernel_rfl) (fun _ _ _ h => h) (Or.inl ⟨by rfl, ?hyz8⟩) S9.out ?restz8
        case hyz8 => (intro w hSw; have q0 := hSw.1; go_simp; try (with_reducible rfl))
        simp only [Act.put, List.setIfInBounds_toArray, List.set_cons_zero, List.set_cons_succ]
        refine wpAnyH_take (i := 9) (oi := ⟨some 43, _, _, _, _, _⟩) (v := ?vz9) rfl (by kernel_rfl) (by kernel_rfl) (by kernel_rfl) (fun _ _ _ h => h) (Or.inl ⟨by rfl, ?hyz9⟩) S9.out ?restz9
        case hyz9 => (intro w hSw; have q0 := hSw.1; go_simp; try (with_reducible rfl))
        simp only [Act.put, List.setIfInBounds_toArray, List.set_cons_zero, List.set_cons_succ]
        refine anyH_one (i := 7) (o := ⟨some 41, _, _, _, _, _⟩) (by kernel_rfl) rfl (fun K hK => ?_)
        rw [if_pos (by rfl)]
        go_simp
        refine (iOwn_any _ hd hra hrn hrc hea hen hec V9.out HH.out.2.2.2.1 HH.out.2.2.2.2).mono ?_
        rintro e4 w4 ⟨rv', en', rfl, ho1, ho2, hs⟩
        obtain ⟨a2, c2, rfl, -, -⟩ := ho1.sv.lenform
        obtain ⟨a3, c3, rfl, -, -⟩ := ho2.sv.lenform
        have O1 := Lib.hid ho1
        have O2 := Lib.hid ho2
        have I4 := Lib.hid (I9.out.step hs)
        have K4 := Lib.hid (K9.out.trans (Kept.of_below hs))
        have KR4 := Lib.hid (KR.out.trans (Kept.of_below hs))
        have H4 := Lib.hid (blk_step H9.out hs)
        have S4 := Lib.hid (show (fun w' => w'.cell? ⟨b, 3, none⟩ = some (.int .i64 (i.news : Int)) ∧ w'.heap[w.heap.size]? = some (recObj hd.sc (.slice hra hrn hrc) (.slice hea hen hec))) w4 from ⟨I4.out.cNews, H4.out⟩)
        clear ho1 ho2 hs
        refine hK.out _ _ S4.out ?_
        clear hK K
        try simp only [Act.put, List.setIfInBounds_toArray, List.set_cons_zero, List.set_cons_succ]
        refine anyH_one (i := 10) (o := ⟨some 44, _, _, _, _, _⟩) (by kernel_rfl) rfl (fun K hK => ?_)
        rw [if_pos (by rfl)]
        go_simp
        refine hK.out _ _ S4.out ?_
        clear hK K
        try simp only [Act.put, List.setIfInBounds_toArray, List.set_cons_zero, List.set_cons_succ]
        refine anyH_one (i := 11) (o := ⟨none, _, _, _, _, _⟩) (by kernel_rfl) rfl (fun K hK => ?_)
        rw [if_pos (by rfl)]
        refine wp_store_to 44 (.tmp 44) (.tmp 41) rfl b (10 + i.news * 15) (recCells hd.sc (.slice a2 hd.rows.length c2) (.slice a3 hd.ents.length c3)) rfl rfl ?_ recInfoS (rec_one ..) ?_
        · exact blk_thereN I4.out.blk (10 + i.news * 15) 15 (show 10 + i.news * 15 + 15 ≤ 100 by omega)
        intro W5 hW5
        have I5 := Lib.hid (show InsAt W5 b { i with rc := upd rc i.news (rcOf (recCells hd.sc (.slice a2 hd.rows.length c2) (.slice a3 hd.ents.length c3))) } by rw [hW5]; exact I4.out.sRec (rcOf (recCells hd.sc (.slice a2 hd.rows.length c2) (.slice a3 hd.ents.length c3))) (show i.news < 5 by omega))
        have KB := Lib.hid (show Kept (fun k => k = b) w4 W5 by rw [hW5]; exact Kept.setCells _ _ w4 (Kept.refl _ _))
        have H5 := Lib.hid ((KB.out.block _ (Array.getElem?_eq_some_iff.1 H4.out).1 (show ¬ w.heap.size = b by have := HT.out b HTb.out; omega)).trans H4.out)
        have S5 := Lib.hid (show (fun w' => w'.cell? ⟨b, 3, none⟩ = some (.int .i64 (i.news : Int)) ∧ w'.heap[w.heap.size]? = some (recObj hd.sc (.slice hra hrn hrc) (.slice hea hen hec))) W5 from ⟨I5.out.cNews, H5.out⟩)
        clear hW5
        refine hK.out _ _ S5.out ?_
        clear hK K
        try simp only [Act.put]
        refine wpAnyH_done (by kernel_rfl) ?_ _
        have LB := Lib.hid (show ∀ j, T j → j < wd.heap.size from fun j hj => by have h1 := HT.out j hj; have h2 := B0.out.size; have h3 := K1.out.size; have h4 := KR.out.size; omega)
        have RN := Lib.hid (show RecL W5 T (rcLf (upd rc i.news (rcOf (recCells hd.sc (.slice a2 hd.rows.length c2) (.slice a3 hd.ents.length c3)))) i.news) hd by
          rw [rcLf_upd]
          have nb : ∀ j, j = b → j < wd.heap.size := fun j e => by subst e; exact I9.out.lt
          refine ⟨_, _, _, _, _, _, rcOf_list _ _ _, ⟨_, _, rfl, (O1.out.kept KB.out (fun a n c e hs => by have h1 := nb _ hs; have h2 := (O1.out.bounds a.block (by rw [e]; rfl)).1; omega)).sv, (O2.out.kept KB.out (fun a n c e hs => by have h1 := nb _ hs; have h2 := (O2.out.bounds a.block (by rw [e]; rfl)).1; omega)).sv⟩, ?_, ?_, HH.out.2.2.2.1, HH.out.2.2.2.2⟩
          · exact (O1.out.outL LB.out).grow KB.out.size (fun _ h => .inl h)
          · exact (O2.out.outL LB.out).grow KB.out.size (fun _ h => .inl h))
        have KE := Lib.hid (KR4.out.trans KB.out)
        have KF := Lib.hid ((Kept.of_below (S := fun k => k = b) B0.out).trans (K4.out.trans KB.out))
        try simp only [Act.put]
        go_wp2
        go_end0
        refine ⟨rfl, KF.out, _, I5.out, fun j hj => ?_⟩
        by_cases e : j = i.news
        · subst e
          have h1 : recsM ds hd i.news i.news = hd := if_pos rfl
          rw [h1]
          exact RN.out
        · rw [rcLf_ne _ _ e]
          have h1 : recsM ds hd i.news j = ((ds[j]?).map RecD.bare).getD RecD.zero := if_neg e
          rw [h1]
          by_cases hjk : j < k
          · exact (RR.out j hjk).grow KE.out (fun x e => e ▸ HTb.out) (fun _ h => .inl h)
          · have h2 : ds[j]? = none := List.getElem?_eq_none (by have := Q.out; have := R0.out.len; have := E9.out; omega)
            rw [ZZ.out j (by omega), h2]
            exact RecL.zero _ _
end Go.Proofs.Ytaiaaljahnackaa
