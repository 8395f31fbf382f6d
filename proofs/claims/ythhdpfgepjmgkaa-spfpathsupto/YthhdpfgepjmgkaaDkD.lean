/- Reaches: the ways, each a copy, in order. -/
import Derived.Test.YthhdpfgepjmgkaaDkC
namespace Go.Proofs.Ythhdpfgepjmgkaa.Dj
open Go.ChangeShapes Go.WideShapes Go.ChangeAt Go.RowKit Go.Joins Go.Deep Go.Shelf Go.Lib Go.Sort Go.Proofs.Ythhdpfgepjmgkaa.Ge
set_option linter.unusedVariables false
set_option linter.unusedSimpArgs false

def lv (r : Rc) : Value := .slice r.a r.ls.length r.c
def OcPost (w : World) (r : Rc) (e : Ending) (w' : World) : Prop := ∃ r' : Rc, e = .returned (.agg (rcL r').toArray) ∧ r'.n = r.n ∧ r'.d = r.d ∧ r'.ls = r.ls ∧ OwnL EI w.heap.size w' (lv r') r'.ls ∧ Below w.heap.size w w'
set_option maxRecDepth 100000 in
set_option maxHeartbeats 16000000 in
theorem own_any (r : Rc) (w : World) (hl : Lst EI w r.a r.ls) (hz : r.a = none → r.ls.length = 0 ∧ r.c = 0) (hb : r.ls.length < 1000000000) : Calls Try.prog 27 #[.agg (rcL r).toArray] w (OcPost w r) := by
  have HX : Hid (Lst EI w r.a r.ls ∧ (r.a = none → r.ls.length = 0 ∧ r.c = 0) ∧ r.ls.length < 1000000000) := ⟨hl, hz, hb⟩
  clear hl hz hb
  go_enter Try.func27, Try.ntmps27
  go_wp2_with (refine list_boxl RcK rfl _ rfl (cs := rcL r) rfl ?_)
  intro b1 w1 hb1 hs1 hbl1
  have HB1 : Hid (w.heap.size = b1 ∧ Below w.heap.size w w1 ∧ SB RcK b1 (rcL r) w1) := ⟨hb1.out, hbl1.out, hs1.out⟩
  clear hb1 hs1 hbl1
  go_wp2_with (refine list_newl RcK _ z_rc rfl rfl ?_)
  intro b2 w2 hb2 hs2 hbl2
  have HB2 : Hid (w1.heap.size = b2 ∧ Below w.heap.size w w2 ∧ SB RcK b1 (rcL r) w2 ∧ SB RcK b2 (rcL zr) w2) := ⟨hb2.out, HB1.out.2.1.trans (hbl2.out.mono HB1.out.2.1.size), HB1.out.2.2.blk (hbl2.out.block b1 HB1.out.2.2.lt), hs2.out⟩
  have HLT : Hid (w.heap.size ≤ b1 ∧ b1 < b2) := by have h1 := HB1.out.1; have h2 := HB1.out.2.2.lt; have h3 := hb2.out; show _ ∧ _; omega
  have c12 : w2.cell? ⟨b1, 2, none⟩ = some (.slice r.a r.ls.length r.c) := HB2.out.2.2.1.cell 2
  clear hb2 hs2 hbl2 HB1
  go_wp2_with fail
  refine (clone_any r.a r.ls.length r.c r.ls w2 rfl HX.out.2.2 (HX.out.1.bel HB2.out.2.1) HX.out.2.1).mono ?_
  rintro e w3 ⟨v', rfl, hv, hbv⟩
  obtain ⟨a', c', rfl, -, hz', hb'⟩ := hv.form
  have HV : Hid (OwnL EI w2.heap.size w3 (.slice a' r.ls.length c') r.ls) := hv
  have HB3 : Hid (Below w.heap.size w w3 ∧ SB RcK b1 (rcL r) w3 ∧ SB RcK b2 (rcL zr) w3) := ⟨HB2.out.2.1.trans (hbv.mono HB2.out.2.1.size), HB2.out.2.2.1.blk (hbv.block b1 HB2.out.2.2.1.lt), HB2.out.2.2.2.blk (hbv.block b2 HB2.out.2.2.2.lt)⟩
  have HSZ : Hid (b2 < w2.heap.size ∧ w.heap.size ≤ w2.heap.size) := ⟨HB2.out.2.2.2.lt, HB2.out.2.1.size⟩
  have c12 : w3.cell? ⟨b1, 2, none⟩ = some (.slice r.a r.ls.length r.c) := HB3.out.2.1.cell 2
  have f12 : w3.frozen? ⟨b1, 2, none⟩ = false := HB3.out.2.1.fro 2
  have hko := Ko.set w3 b1 2 (.slice a' r.ls.length c')
  have HS4 : Hid (SB RcK b1 (rcL ⟨r.n, r.d, r.ls, a', c'⟩) (w3.setCell ⟨b1, 2, none⟩ (.slice a' r.ls.length c')) ∧ SB RcK b2 (rcL zr) (w3.setCell ⟨b1, 2, none⟩ (.slice a' r.ls.length c')) ∧ Below w.heap.size w (w3.setCell ⟨b1, 2, none⟩ (.slice a' r.ls.length c')) ∧ OwnL EI w2.heap.size (w3.setCell ⟨b1, 2, none⟩ (.slice a' r.ls.length c')) (.slice a' r.ls.length c') r.ls) := ⟨HB3.out.2.1.set 2 _ rfl, HB3.out.2.2.blk (hko.block b2 (by have := HLT.out; omega)), HB3.out.1.trans (hko.below HLT.out.1), HV.out.blk (fun g e => hko.block g (fun c => by have h1 := (HV.out.row.lt g e).1; have h2 := HSZ.out; have h3 := HLT.out; omega))⟩
  clear hv hbv hz' hb' hko
  go_wp2_with (first | (refine list_sload RcK rfl _ rfl (b := b1) (cs := rcL ⟨r.n, r.d, r.ls, a', c'⟩) rfl HS4.out.1 rfl ?_) | (refine list_sstore RcK rfl _ _ rfl (b := b2) (cs := rcL zr) (cs' := rcL ⟨r.n, r.d, r.ls, a', c'⟩) rfl rfl HS4.out.2.1 rfl rfl rfl ?_))
  intro w5 hs5 hk5
  have HE : Hid (OcPost w r (.returned (.agg (rcL ⟨r.n, r.d, r.ls, a', c'⟩).toArray)) w5) := ⟨⟨r.n, r.d, r.ls, a', c'⟩, rfl, rfl, rfl, rfl, ((HS4.out.2.2.2.blk (fun g e => hk5.out.block g (fun c => by have h1 := (HS4.out.2.2.2.row.lt g e).1; have h2 := HSZ.out; omega))).mono HSZ.out.2 : OwnL EI w.heap.size w5 (.slice a' r.ls.length c') r.ls), HS4.out.2.2.1.trans (hk5.out.below (by have := HLT.out; omega))⟩
  have HS5 : Hid (SB RcK b2 (rcL ⟨r.n, r.d, r.ls, a', c'⟩) w5) := hs5.out
  clear hs5 hk5 c12 f12
  go_wp2_with fail
  exact ret_cell RcK rfl rfl HS5.out rfl rfl HE.out
end Go.Proofs.Ythhdpfgepjmgkaa.Dj
