/- A chain of records in memory: what it reads as, with the records' own rows and entries. -/
import Derived.Test.YtkkmfacngmginaaLfMem
namespace Go.Proofs.Ytkkmfacngmginaa
open Go.RowKit

/-- a record as it lies in memory -/
structure RcD where
  sc : Sc
  ra : Option Addr
  rc : Nat
  ea : Option Addr
  ec : Nat
  rows : List Rw
  ents : List En
def RcD.rv (d : RcD) : Value := .slice d.ra d.rows.length d.rc
def RcD.en (d : RcD) : Value := .slice d.ea d.ents.length d.ec
def RcD.cells (d : RcD) : List Value := recCells d.sc d.rv d.en
/-- what it reads as -/
def RcD.d (d : RcD) : RecD := ⟨d.sc, d.rows, d.ents⟩
theorem RcD.cells_one (d : RcD) : ∀ u ∈ d.cells, u.oneCell' = true := fun u h => by
  simp only [RcD.cells, RcD.rv, RcD.en, recCells, List.mem_cons, List.not_mem_nil, or_false] at h
  rcases h with h | h | h | h | h | h | h | h | h | h | h | h | h | h | h <;> subst h <;> rfl
def lRec : Lay RcD := ⟨39, 15, RcD.cells, fun _ => rfl, RcD.cells_one⟩
theorem lRec_known : lRec.known 192 := known_of recInfo rfl rfl
/-- no text of a record is too long for any machine -/
structure SzS (s : Sc) : Prop where
  low : s.low.size ≤ maxLen
  high : s.high.size ≤ maxLen
  key : s.key.size ≤ maxLen
  value : s.value.size ≤ maxLen
  hk : s.hk.size ≤ maxLen
def SmallE (es : List En) : Prop := ∀ e ∈ es, e.1.size ≤ maxLen
/-- what a record's rows and entries hold in memory -/
structure RcW (w : World) (d : RcD) : Prop where
  rows : SV lRow w d.rv d.rows
  ents : SV lEnt w d.en d.ents
  sz : SzS d.sc
  smallR : Small d.rows
  smallE : SmallE d.ents
  fitR : 32 * d.rows.length ≤ 281474976710656
  fitE : 24 * d.ents.length ≤ 281474976710656
structure ChW (w : World) (v : Value) (ds : List RcD) : Prop where
  sv : SV lRec w v ds
  all : ∀ d ∈ ds, RcW w d
def readC (ds : List RcD) : List RecD := ds.map RcD.d
theorem RcW.below {w w' : World} {d : RcD} (h : RcW w d) (hb : Below w.heap.size w w') : RcW w' d := ⟨h.rows.below hb, h.ents.below hb, h.sz, h.smallR, h.smallE, h.fitR, h.fitE⟩
theorem ChW.below {w w' : World} {v : Value} {ds : List RcD} (h : ChW w v ds) (hb : Below w.heap.size w w') : ChW w' v ds := ⟨h.sv.below hb, fun d hd => (h.all d hd).below hb⟩
theorem RcW.recV {w : World} {d : RcD} (h : RcW w d) : RecV w (recVal d.sc d.rv d.en) d.d := ⟨_, _, rfl, h.rows, h.ents⟩
/-- .. in memory of a call's own, at base or behind it -/
structure RcO (base : Nat) (w : World) (d : RcD) : Prop where
  rows : OwnS lRow base w d.rv d.rows
  ents : OwnS lEnt base w d.en d.ents
  sz : SzS d.sc
  smallR : Small d.rows
  smallE : SmallE d.ents
  fitR : 32 * d.rows.length ≤ 281474976710656
  fitE : 24 * d.ents.length ≤ 281474976710656
structure ChO (base : Nat) (w : World) (v : Value) (ds : List RcD) : Prop where
  own : OwnS lRec base w v ds
  all : ∀ d ∈ ds, RcO base w d
theorem RcO.weak {base : Nat} {w : World} {d : RcD} (h : RcO base w d) : RcW w d := ⟨h.rows.sv, h.ents.sv, h.sz, h.smallR, h.smallE, h.fitR, h.fitE⟩
theorem RcO.below {base : Nat} {w w' : World} {d : RcD} (h : RcO base w d) (hb : Below w.heap.size w w') : RcO base w' d := ⟨h.rows.below hb, h.ents.below hb, h.sz, h.smallR, h.smallE, h.fitR, h.fitE⟩
theorem ChO.weak {base : Nat} {w : World} {v : Value} {ds : List RcD} (h : ChO base w v ds) : ChW w v ds := ⟨h.own.sv, fun d hd => (h.all d hd).weak⟩
theorem ChO.below {base : Nat} {w w' : World} {v : Value} {ds : List RcD} (h : ChO base w v ds) (hb : Below w.heap.size w w') : ChO base w' v ds := ⟨h.own.below hb, fun d hd => (h.all d hd).below hb⟩
theorem ChO.mono {b b' : Nat} {w : World} {v : Value} {ds : List RcD} (h : ChO b w v ds) (hb : b' ≤ b) : ChO b' w v ds := ⟨h.own.mono hb, fun d hd => ⟨(h.all d hd).rows.mono hb, (h.all d hd).ents.mono hb, (h.all d hd).sz, (h.all d hd).smallR, (h.all d hd).smallE, (h.all d hd).fitR, (h.all d hd).fitE⟩⟩
theorem ChO.nil (base : Nat) (w : World) : ChO base w (.slice none 0 0) [] := ⟨OwnS.nil _ _ _, fun d h => by cases h⟩
theorem RcO.kept {S : Nat → Prop} {base : Nat} {w w' : World} {d : RcD} (h : RcO base w d) (hk : Kept S w w') (hr : Out S d.rv) (he : Out S d.en) : RcO base w' d := ⟨h.rows.kept hk hr, h.ents.kept hk he, h.sz, h.smallR, h.smallE, h.fitR, h.fitE⟩
end Go.Proofs.Ytkkmfacngmginaa
