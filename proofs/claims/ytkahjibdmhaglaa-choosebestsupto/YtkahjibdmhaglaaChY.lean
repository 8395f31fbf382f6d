/- Order of no offers. -/
import Derived.Test.YtkahjibdmhaglaaChX
namespace Go.Proofs.Ytkahjibdmhaglaa.Ch
open Go.ChangeShapes Go.WideShapes Go.ChangeAt Go.RowKit Go.Joins Go.Deep Go.Lib Go.Proofs.Ytkahjibdmhaglaa.Ge Go.Proofs.Ytkahjibdmhaglaa.Ss
open Go.Sort hiding Below
set_option linter.unusedVariables false
set_option linter.unusedSimpArgs false

def LnPost (w : World) (e : Ending) (w' : World) : Prop := ∃ g, e = .returned (.slice (some ⟨g, 0, none⟩) 0 0) ∧ Below w.heap.size w w'
set_option maxRecDepth 100000 in
set_option maxHeartbeats 8000000 in
theorem last_nil (pa : Option Addr) (pc sb1 sb2 c5 : Nat) (w : World) : Calls Try.prog 30 #[.agg #[.slice none 0 0, .slice (some ⟨sb1, 0, none⟩) 3 3, .slice (some ⟨sb2, 0, none⟩) 5 c5], .slice pa 0 pc] w (LnPost w) := by
  obtain ⟨i0, hi, hz0, hz1, hz2⟩ := info_of EN.hi
  go_enter Try.func30, Try.ntmps30
  go_wp2_with (refine list_sboxe FdK rfl _ rfl (cs := [.slice none 0 0, .slice (some ⟨sb1, 0, none⟩) 3 3, .slice (some ⟨sb2, 0, none⟩) 5 c5]) rfl ?_)
  intro bf W0 hx hg hbf
  have HB : Hid (Below w.heap.size w W0) := hg.out.bel
  have c0 : W0.cell? ⟨bf, 0, none⟩ = some (.slice none 0 0) := hx.out.cell 0
  clear hx hg hbf
  go_wp2_with (at_make; refine wpList_make_full _ rfl _ _ 24 rfl W0.heap.size 3 i0 _ 1 Try.underlying24 hi hz0 hz1 _ _ _ _ 0 rfl rfl rfl rfl (by omega) (by unfold maxLen; omega) (Nat.le_refl _) ?_)
  intro w1 hrow hgr
  have HE : Hid (Below w.heap.size w w1) := HB.out.trans ((⟨hgr.os, hgr.tape, hgr.output, hgr.size, fun k hk => hgr.block k hk (fun e => by cases e)⟩ : Below W0.heap.size W0 w1).mono HB.out.size)
  clear hrow hgr c0 hi hz0 hz1 hz2
  go_wp2_with fail
  refine wp_loop_rounds 1 ?_
  rw [rounds_succ]
  go_wp2_with fail
  go_ret
  exact ⟨_, rfl, HE.out⟩
def OnPost (w : World) (e : Ending) (w' : World) : Prop := ∃ a c, e = .returned (.slice a 0 c) ∧ Below w.heap.size w w'
set_option maxRecDepth 100000 in
set_option maxHeartbeats 16000000 in
theorem order_nil (w : World) : Calls Try.prog 7 #[.slice none 0 0] w (OnPost w) := by
  go_enter Try.func7, Try.ntmps7
  go_wp2_with fail
  refine (so_any w).mono ?_
  rintro e w1 ⟨sb1, rfl, g1, g2, g3, g4⟩
  have HB1 : Hid (Below w.heap.size w w1) := g4
  clear g1 g2 g3 g4
  go_wp2_with fail
  refine (sc_any w1).mono ?_
  rintro e w2 ⟨sa, rfl, g1, g2, g3, g4⟩
  have H2 : Hid (sa < w2.heap.size ∧ (∀ i (hi : i < [3, 4].length), w2.cell? ⟨sa, i, none⟩ = some (fvK [3, 4][i])) ∧ Below w1.heap.size w1 w2) := ⟨g2, g3, g4⟩
  clear g1 g2 g3 g4
  go_wp2_with fail
  refine (sp_any w2).mono ?_
  rintro e w3 ⟨sp, rfl, g1, g2, g3, g4⟩
  have H3 : Hid (sp < w3.heap.size ∧ (∀ i (hi : i < [5, 6, 7].length), w3.cell? ⟨sp, i, none⟩ = some (fvK [5, 6, 7][i])) ∧ Below w2.heap.size w2 w3) := ⟨g2, g3, g4⟩
  clear g1 g2 g3 g4
  go_wp2_with fail
  obtain ⟨bs, hbs⟩ : ∃ y, w3.heap.size = y := ⟨_, rfl⟩
  obtain ⟨w4, hw4⟩ : ∃ y, w3.alloc (Obj.cells #[.slice (some ⟨sa, 0, none⟩) 2 2, .slice (some ⟨sp, 0, none⟩) 3 3] 42) = y := ⟨_, rfl⟩
  have h34 : Below w3.heap.size w3 w4 := by rw [← hw4]; exact (Below.refl _ _).alloc (Nat.le_refl _) _
  have hnew : w4.heap[bs]? = some (Obj.cells #[.slice (some ⟨sa, 0, none⟩) 2 2, .slice (some ⟨sp, 0, none⟩) 3 3] 42) := by rw [← hw4, ← hbs]; exact World.alloc_heap_new w3 _
  have k0 : w4.cell? ⟨bs, 0, none⟩ = some (.slice (some ⟨sa, 0, none⟩) 2 2) := by unfold World.cell?; rw [hnew]; rfl
  have k1 : w4.cell? ⟨bs, 1, none⟩ = some (.slice (some ⟨sp, 0, none⟩) 3 3) := by unfold World.cell?; rw [hnew]; rfl
  have hb23 : Below w2.heap.size w2 w4 := H3.out.2.2.trans (h34.mono H3.out.2.2.size)
  have HCC := concat_any sa sp bs 2 w4 k0 k1 (st_lst (ks := [3, 4]) (Nat.lt_of_lt_of_le H2.out.1 hb23.size) (by decide) (fun i hi => (World.cell?_of_block (w := w2) (hb23.block sa H2.out.1)).trans (H2.out.2.1 i hi))) (st_lst (ks := [5, 6, 7]) (Nat.lt_of_lt_of_le H3.out.1 h34.size) (by decide) (fun i hi => (World.cell?_of_block (w := w3) (h34.block sp H3.out.1)).trans (H3.out.2.1 i hi)))
  have H4 : Hid (Below w.heap.size w w4) := HB1.out.trans ((H2.out.2.2.trans (hb23.mono H2.out.2.2.size)).mono HB1.out.size)
  rw [hbs, hw4]
  clear hbs hw4 h34 hnew k0 k1 hb23 H2 H3 HB1
  refine HCC.mono ?_
  rintro e w5 ⟨sb2, c5, rfl, g1, g2, g3, g4⟩
  have H5 : Hid (Below w.heap.size w w5) := H4.out.trans (g4.mono H4.out.size)
  clear g1 g2 g3 g4 HCC H4
  go_wp2_with fail
  obtain ⟨bf, hbf⟩ : ∃ y, w5.heap.size = y := ⟨_, rfl⟩
  obtain ⟨w6, hw6⟩ : ∃ y, w5.alloc (Obj.cells #[.slice none 0 0, .slice (some ⟨sb1, 0, none⟩) 3 3, .slice (some ⟨sb2, 0, none⟩) 5 c5] 48) = y := ⟨_, rfl⟩
  have h56 : Below w5.heap.size w5 w6 := by rw [← hw6]; exact (Below.refl _ _).alloc (Nat.le_refl _) _
  have HB6 : Hid (Below w.heap.size w w6) := H5.out.trans (h56.mono H5.out.size)
  have HS6 : Hid (SB FdK bf [.slice none 0 0, .slice (some ⟨sb1, 0, none⟩) 3 3, .slice (some ⟨sb2, 0, none⟩) 5 c5] w6) := by show SB _ _ _ _; rw [← hw6, ← hbf]; exact World.alloc_heap_new w5 _
  rw [hbf, hw6]
  clear hbf hw6 h56 H5
  refine (reached_any none 0 0 [] rfl (by decide) w6 ⟨fun W hW => ⟨⟨by simp, fun i hi => absurd hi (by simp)⟩, fun q hq => (by cases hq)⟩⟩).mono ?_
  rintro e w7 ⟨v7, rfl, ho7, hb7⟩
  obtain ⟨a, c, rfl, -⟩ := ho7.form
  have HB7 : Hid (Below w.heap.size w w7) := HB6.out.trans (hb7.mono HB6.out.size)
  have HS7 : Hid (SB FdK bf [.slice none 0 0, .slice (some ⟨sb1, 0, none⟩) 3 3, .slice (some ⟨sb2, 0, none⟩) 5 c5] w7) := HS6.out.blk (hb7.block bf (SB.lt HS6.out))
  have hl : (rchP (atO []) 0).length = 0 := rfl
  rw [hl]
  clear ho7 hb7 hl HB6 HS6
  go_wp2_with fail
  refine (sort_none a c _ w7).mono ?_
  rintro e w8 ⟨rfl, hw8⟩
  rw [hw8]
  clear hw8 w8
  go_wp2_with (refine list_sload FdK rfl _ rfl (b := bf) (cs := [.slice none 0 0, .slice (some ⟨sb1, 0, none⟩) 3 3, .slice (some ⟨sb2, 0, none⟩) 5 c5]) rfl HS7.out rfl ?_)
  refine (last_nil a c sb1 sb2 c5 w7).mono ?_
  rintro e w9 ⟨g9, rfl, hb9⟩
  have HB9 : Hid (Below w.heap.size w w9) := HB7.out.trans (hb9.mono HB7.out.size)
  clear hb9
  go_wp2_with fail
  obtain ⟨w10, hw10⟩ : ∃ y, w9.alloc (Obj.cells #[.slice (some ⟨g9, 0, none⟩) 0 0] 24) = y := ⟨_, rfl⟩
  have HB10 : Hid (Below w.heap.size w w10) := HB9.out.trans ((show Below w9.heap.size w9 w10 by rw [← hw10]; exact (Below.refl _ _).alloc (Nat.le_refl _) _).mono HB9.out.size)
  rw [hw10]
  clear hw10
  refine (stable_none a c _ w10).mono ?_
  rintro e w11 ⟨rfl, hw11⟩
  rw [hw11]
  clear hw11 w11
  go_wp2_with fail
  go_ret
  exact ⟨a, c, rfl, HB10.out⟩
end Go.Proofs.Ytkahjibdmhaglaa.Ch
