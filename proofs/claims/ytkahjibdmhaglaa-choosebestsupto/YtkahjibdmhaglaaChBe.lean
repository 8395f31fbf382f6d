/- offerSame of an offer and its copy. -/
import Derived.Test.YtkahjibdmhaglaaChBd
namespace Go.Proofs.Ytkahjibdmhaglaa.Ch
open Go.ChangeShapes Go.WideShapes Go.ChangeAt Go.RowKit Go.Joins Go.Deep Go.Proofs.Ytkahjibdmhaglaa.Ge
set_option linter.unusedVariables false
set_option linter.unusedSimpArgs false

def TrPost (w : World) (e : Ending) (w' : World) : Prop := e = .returned (.bool true) ∧ Below w.heap.size w w'
set_option maxRecDepth 100000 in
set_option maxHeartbeats 16000000 in
theorem osame_any (x : Of) (s t : Oa) (B1 B2 : Nat) (w : World) (h1 : OfOk w B1 x s) (h2 : OfOk w B2 x t) : Calls Try.prog 14 #[.agg (ofL x s).toArray, .agg (ofL x t).toArray] w (TrPost w) := by
  have H1 : Hid (OfOk w B1 x s) := h1
  have H2 : Hid (OfOk w B2 x t) := h2
  clear h1 h2
  go_enter Try.func14, Try.ntmps14
  go_upto_region 1 with first | (refine list_sboxf OfK rfl _ rfl (cs := ofL x s) rfl ?_; intro b1 W0 hx hg hbf hgs) | (refine list_sboxf OfK rfl _ rfl (cs := ofL x t) rfl ?_; intro b2 W1 hx2 hg2 hbf2 hgs2)
  have hs1 := hx.out.blk (hg2.out.bel.block b1 (SB.lt hx.out))
  have HB1 : Hid (Below w.heap.size w W1) := hg.out.bel.trans (hg2.out.bel.mono hg.out.bel.size)
  have c0 := hs1.cell 0
  have c1 := hs1.cell 1
  have c2 := hs1.cell 2
  have c3 := hs1.cell 3
  have c4 := hs1.cell 4
  have c5 := hs1.cell 5
  have c6 := hs1.cell 6
  have c7 := hs1.cell 7
  have c8 := hs1.cell 8
  have c9 := hs1.cell 9
  have c10 := hs1.cell 10
  have c11 := hs1.cell 11
  have c12 := hs1.cell 12
  have e0 := hx2.out.cell 0
  have e1 := hx2.out.cell 1
  have e2 := hx2.out.cell 2
  have e3 := hx2.out.cell 3
  have e4 := hx2.out.cell 4
  have e5 := hx2.out.cell 5
  have e6 := hx2.out.cell 6
  have e7 := hx2.out.cell 7
  have e8 := hx2.out.cell 8
  have e9 := hx2.out.cell 9
  have e10 := hx2.out.cell 10
  have e11 := hx2.out.cell 11
  have e12 := hx2.out.cell 12
  simp only [ofL, List.getElem?_cons_zero, List.getElem?_cons_succ] at c0 c1 c2 c3 c4 c5 c6 c7 c8 c9 c10 c11 c12 e0 e1 e2 e3 e4 e5 e6 e7 e8 e9 e10 e11 e12
  have HS : Hid (SB OfK b1 (ofL x s) W1 ∧ SB OfK b2 (ofL x t) W1) := ⟨hs1, hx2.out⟩
  clear hx hg hbf hgs hx2 hg2 hbf2 hgs2 hs1
  obtain ⟨W2, hW2⟩ : ∃ y, W1 = y := ⟨_, rfl⟩
  rw [hW2] at HB1 HS c0 c1 c2 c3 c4 c5 c6 c7 c8 c9 c10 c11 c12 e0 e1 e2 e3 e4 e5 e6 e7 e8 e9 e10 e11 e12 ⊢
  clear hW2
  go_wp2_with fail
  refine (cints_any _ _ _ _ _ x.path rfl W2 (H1.out.kp.bel HB1.out) (H2.out.kp.bel HB1.out)).mono ?_
  rintro e W3 ⟨rfl, hb3⟩
  have HB3 : Hid (Below w.heap.size w W3) := HB1.out.trans (hb3.mono HB1.out.size)
  have f7 : W3.cell? ⟨b1, 7, none⟩ = some (.slice s.m x.marks.length s.mc) := (World.cell?_of_block (w := W2) (hb3.block b1 (SB.lt HS.out.1))).trans c7
  have g7 : W3.cell? ⟨b2, 7, none⟩ = some (.slice t.m x.marks.length t.mc) := (World.cell?_of_block (w := W2) (hb3.block b2 (SB.lt HS.out.2))).trans e7
  have HS3 : Hid (SB OfK b1 (ofL x s) W3 ∧ SB OfK b2 (ofL x t) W3) := ⟨HS.out.1.blk (hb3.block b1 (SB.lt HS.out.1)), HS.out.2.blk (hb3.block b2 (SB.lt HS.out.2))⟩
  clear c0 c1 c2 c3 c4 c5 c6 c7 c8 c9 c10 c11 c12 e0 e1 e2 e3 e4 e5 e6 e7 e8 e9 e10 e11 e12 HS hb3 HB1
  go_wp2_with fail
  refine (cints_any _ _ _ _ _ x.marks rfl W3 (H1.out.km.bel HB3.out) (H2.out.km.bel HB3.out)).mono ?_
  rintro e W4 ⟨rfl, hb4⟩
  have HB4 : Hid (Below w.heap.size w W4) := HB3.out.trans (hb4.mono HB3.out.size)
  have f8 : W4.cell? ⟨b1, 8, none⟩ = some (.slice s.c x.clus.length s.cc) := (HS3.out.1.blk (hb4.block b1 (SB.lt HS3.out.1))).cell 8
  have g8 : W4.cell? ⟨b2, 8, none⟩ = some (.slice t.c x.clus.length t.cc) := (HS3.out.2.blk (hb4.block b2 (SB.lt HS3.out.2))).cell 8
  clear f7 g7 HS3 hb4 HB3
  go_wp2_with fail
  refine (cints_any _ _ _ _ _ x.clus rfl W4 (H1.out.kc.bel HB4.out) (H2.out.kc.bel HB4.out)).mono ?_
  rintro e W5 ⟨rfl, hb5⟩
  have HB5 : Hid (Below w.heap.size w W5) := HB4.out.trans (hb5.mono HB4.out.size)
  clear f8 g8 hb5 HB4
  go_wp2_with fail
  go_ret
  exact ⟨rfl, HB5.out⟩
end Go.Proofs.Ytkahjibdmhaglaa.Ch
