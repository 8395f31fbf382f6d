/- The document's chooseNeighbour, chooseBeaten, chooseFirst. -/
import Derived.Test.YtkahjibdmhaglaaChCa
namespace Go.Proofs.Ytkahjibdmhaglaa.Ch
open Go.ChangeShapes Go.WideShapes Go.ChangeAt Go.RowKit Go.Joins Go.Deep Go.Proofs.Ytkahjibdmhaglaa.Ge
set_option linter.unusedVariables false
set_option linter.unusedSimpArgs false

set_option maxRecDepth 100000 in
set_option maxHeartbeats 8000000 in
theorem rnb_any (x : Of) (s : Oa) (w : World) (h : Lst EI w s.p x.path) : Calls Try.prog 72 #[.agg (ofL x s).toArray] w fun e w' => e = .returned (.int .i64 (nbP x)) ∧ Gw w w' := by
  have H : Hid (Lst EI w s.p x.path) := h
  obtain ⟨z, hz⟩ : ∃ z, nbP x = z := ⟨_, rfl⟩
  have HZ : Hid (x.path.headD 0 = z) := hz
  rw [hz]
  clear h hz
  go_enter Try.func72, Try.ntmps72
  go_upto_region 1 with (refine list_sboxf OfK rfl _ rfl (cs := ofL x s) rfl ?_; intro b1 W0 hx hg hbf hgs)
  have c : W0.cell? ⟨b1, 2, none⟩ = some (.slice s.p x.path.length s.pc) := hx.out.cell 2
  have HG : Hid (Gw w W0) := hg.out
  have HL : Hid (Lst EI W0 s.p x.path) := H.out.bel hg.out.bel
  clear hx hg hbf hgs
  obtain ⟨pa, hpa⟩ : ∃ y, s.p = y := ⟨_, rfl⟩
  obtain ⟨pc, hpc⟩ : ∃ y, s.pc = y := ⟨_, rfl⟩
  obtain ⟨pl, hpl⟩ : ∃ y, x.path = y := ⟨_, rfl⟩
  rw [hpa, hpc, hpl] at c
  rw [hpa, hpl] at HL
  rw [hpl] at HZ
  clear H hpa hpc hpl
  cases pl with
  | nil =>
    have HE : Hid (0 = z) := HZ.out
    go_wp2_with fail
    go_ret
    exact ⟨by rw [← HE.out]; try rfl, HG.out⟩
  | cons y ys =>
    have HE : Hid (y = z) := HZ.out
    obtain ⟨gb, gf, rfl, hl, hc⟩ := HL.out.cells 0 (by simp)
    have k0 : W0.cell? ⟨gb, gf, none⟩ = some (.int .i64 y) := hc 0 (by decide)
    have hsm := HL.out.small
    obtain ⟨m, hm⟩ : ∃ m, (y :: ys).length = m := ⟨_, rfl⟩
    rw [hm] at c hsm
    have hm1 : (0 : Int) < (m : Int) := by rw [← hm]; simp only [List.length_cons]; omega
    clear hm hc HL hl HZ
    go_wp2_with fail
    go_ret
    exact ⟨by rw [← HE.out]; try rfl, HG.out⟩
def BtPost (w : World) (r : Bool) (e : Ending) (w' : World) : Prop := e = .returned (.bool r) ∧ Below w.heap.size w w'
set_option maxRecDepth 100000 in
set_option maxHeartbeats 8000000 in
theorem rbt2_any (x : Of) (s : Oa) (y : Of) (t : Oa) (w : World) (h1 : Lst EI w s.p x.path) (h2 : Lst EI w t.p y.path) : Calls Try.prog 56 #[.agg (ofL x s).toArray, .agg (ofL y t).toArray, .int .i64 2] w (BtPost w (bt 2 x y)) := by
  obtain ⟨r, hr⟩ : ∃ z, bt 2 x y = z := ⟨_, rfl⟩
  have HR : Hid (bt 2 x y = r) := hr
  have H1 : Hid (Lst EI w s.p x.path) := h1
  have H2 : Hid (Lst EI w t.p y.path) := h2
  rw [hr]
  clear hr h1 h2
  go_enter Try.func56, Try.ntmps56
  go_upto_region 1 with first | (refine list_sboxf OfK rfl _ rfl (cs := ofL x s) rfl ?_; intro b1 W0 hx hg hbf hgs) | (refine list_sboxf OfK rfl _ rfl (cs := ofL y t) rfl ?_; intro b2 W1 hx2 hg2 hbf2 hgs2)
  have hs1 := hx.out.blk (hg2.out.bel.block b1 (SB.lt hx.out))
  have HB1 : Hid (Gw w W1) := hg.out.trans hg2.out
  have c1 : W1.cell? ⟨b1, 4, none⟩ = some (.int .i64 x.pref) := hs1.cell 4
  have c2 : W1.cell? ⟨b2, 4, none⟩ = some (.int .i64 y.pref) := hx2.out.cell 4
  obtain ⟨u, hu⟩ : ∃ q, x.pref = q := ⟨_, rfl⟩
  obtain ⟨v, hv⟩ : ∃ q, y.pref = q := ⟨_, rfl⟩
  have HE : Hid (decide (u < v) = r) := by show _ = _; rw [← HR.out, ← hu, ← hv]; rfl
  rw [hu] at c1
  rw [hv] at c2
  clear hu hv HR hx hg hbf hgs hx2 hg2 hbf2 hgs2 hs1
  go_wp2_with fail
  go_ret
  exact ⟨by rw [← HE.out]; try rfl, HB1.out.bel⟩
set_option maxRecDepth 100000 in
set_option maxHeartbeats 8000000 in
theorem rbt3_any (x : Of) (s : Oa) (y : Of) (t : Oa) (w : World) (h1 : Lst EI w s.p x.path) (h2 : Lst EI w t.p y.path) : Calls Try.prog 56 #[.agg (ofL x s).toArray, .agg (ofL y t).toArray, .int .i64 3] w (BtPost w (bt 3 x y)) := by
  obtain ⟨r, hr⟩ : ∃ z, bt 3 x y = z := ⟨_, rfl⟩
  have HR : Hid (bt 3 x y = r) := hr
  have H1 : Hid (Lst EI w s.p x.path) := h1
  have H2 : Hid (Lst EI w t.p y.path) := h2
  rw [hr]
  clear hr h1 h2
  go_enter Try.func56, Try.ntmps56
  go_upto_region 1 with first | (refine list_sboxf OfK rfl _ rfl (cs := ofL x s) rfl ?_; intro b1 W0 hx hg hbf hgs) | (refine list_sboxf OfK rfl _ rfl (cs := ofL y t) rfl ?_; intro b2 W1 hx2 hg2 hbf2 hgs2)
  have hs1 := hx.out.blk (hg2.out.bel.block b1 (SB.lt hx.out))
  have HB1 : Hid (Gw w W1) := hg.out.trans hg2.out
  have c1 : W1.cell? ⟨b1, 2, none⟩ = some (.slice s.p x.path.length s.pc) := hs1.cell 2
  have c2 : W1.cell? ⟨b2, 2, none⟩ = some (.slice t.p y.path.length t.pc) := hx2.out.cell 2
  obtain ⟨u, hu⟩ : ∃ q, x.path.length = q := ⟨_, rfl⟩
  obtain ⟨v, hv⟩ : ∃ q, y.path.length = q := ⟨_, rfl⟩
  have HE : Hid (decide (v < u) = r) := by show _ = _; rw [← HR.out, ← hu, ← hv]; rfl
  rw [hu] at c1
  rw [hv] at c2
  clear hu hv HR hx hg hbf hgs hx2 hg2 hbf2 hgs2 hs1
  go_wp2_with fail
  go_ret
  exact ⟨by rw [← HE.out]; try rfl, HB1.out.bel⟩
set_option maxRecDepth 100000 in
set_option maxHeartbeats 8000000 in
theorem rbt4_any (x : Of) (s : Oa) (y : Of) (t : Oa) (w : World) (h1 : Lst EI w s.p x.path) (h2 : Lst EI w t.p y.path) : Calls Try.prog 56 #[.agg (ofL x s).toArray, .agg (ofL y t).toArray, .int .i64 4] w (BtPost w (bt 4 x y)) := by
  obtain ⟨r, hr⟩ : ∃ z, bt 4 x y = z := ⟨_, rfl⟩
  have HR : Hid (bt 4 x y = r) := hr
  have H1 : Hid (Lst EI w s.p x.path) := h1
  have H2 : Hid (Lst EI w t.p y.path) := h2
  rw [hr]
  clear hr h1 h2
  go_enter Try.func56, Try.ntmps56
  go_upto_region 1 with first | (refine list_sboxf OfK rfl _ rfl (cs := ofL x s) rfl ?_; intro b1 W0 hx hg hbf hgs) | (refine list_sboxf OfK rfl _ rfl (cs := ofL y t) rfl ?_; intro b2 W1 hx2 hg2 hbf2 hgs2)
  have hs1 := hx.out.blk (hg2.out.bel.block b1 (SB.lt hx.out))
  have HB1 : Hid (Gw w W1) := hg.out.trans hg2.out
  have c1 : W1.cell? ⟨b1, 3, none⟩ = some (.int .i64 x.org) := hs1.cell 3
  have c2 : W1.cell? ⟨b2, 3, none⟩ = some (.int .i64 y.org) := hx2.out.cell 3
  obtain ⟨u, hu⟩ : ∃ q, x.org = q := ⟨_, rfl⟩
  obtain ⟨v, hv⟩ : ∃ q, y.org = q := ⟨_, rfl⟩
  have HE : Hid (decide (v < u) = r) := by show _ = _; rw [← HR.out, ← hu, ← hv]; rfl
  rw [hu] at c1
  rw [hv] at c2
  clear hu hv HR hx hg hbf hgs hx2 hg2 hbf2 hgs2 hs1
  go_wp2_with fail
  go_ret
  exact ⟨by rw [← HE.out]; try rfl, HB1.out.bel⟩
set_option maxRecDepth 100000 in
set_option maxHeartbeats 8000000 in
theorem rbt6_any (x : Of) (s : Oa) (y : Of) (t : Oa) (w : World) (h1 : Lst EI w s.p x.path) (h2 : Lst EI w t.p y.path) : Calls Try.prog 56 #[.agg (ofL x s).toArray, .agg (ofL y t).toArray, .int .i64 6] w (BtPost w (bt 6 x y)) := by
  obtain ⟨r, hr⟩ : ∃ z, bt 6 x y = z := ⟨_, rfl⟩
  have HR : Hid (bt 6 x y = r) := hr
  have H1 : Hid (Lst EI w s.p x.path) := h1
  have H2 : Hid (Lst EI w t.p y.path) := h2
  rw [hr]
  clear hr h1 h2
  go_enter Try.func56, Try.ntmps56
  go_upto_region 1 with first | (refine list_sboxf OfK rfl _ rfl (cs := ofL x s) rfl ?_; intro b1 W0 hx hg hbf hgs) | (refine list_sboxf OfK rfl _ rfl (cs := ofL y t) rfl ?_; intro b2 W1 hx2 hg2 hbf2 hgs2)
  have hs1 := hx.out.blk (hg2.out.bel.block b1 (SB.lt hx.out))
  have HB1 : Hid (Gw w W1) := hg.out.trans hg2.out
  have c1 : W1.cell? ⟨b1, 11, none⟩ = some (.bool x.inner) := hs1.cell 11
  have c2 : W1.cell? ⟨b2, 11, none⟩ = some (.bool y.inner) := hx2.out.cell 11
  obtain ⟨u, hu⟩ : ∃ q, x.inner = q := ⟨_, rfl⟩
  obtain ⟨v, hv⟩ : ∃ q, y.inner = q := ⟨_, rfl⟩
  have HE : Hid ((u && !v) = r) := by show _ = _; rw [← HR.out, ← hu, ← hv]; rfl
  rw [hu] at c1
  rw [hv] at c2
  clear hu hv HR hx hg hbf hgs hx2 hg2 hbf2 hgs2 hs1
  cases u
  · go_wp2_with fail
    go_ret
    exact ⟨by rw [← HE.out]; try rfl, HB1.out.bel⟩
  · go_wp2_with fail
    go_ret
    exact ⟨by rw [← HE.out]; cases v <;> rfl, HB1.out.bel⟩
set_option maxRecDepth 100000 in
set_option maxHeartbeats 8000000 in
theorem rbt7_any (x : Of) (s : Oa) (y : Of) (t : Oa) (w : World) (h1 : Lst EI w s.p x.path) (h2 : Lst EI w t.p y.path) : Calls Try.prog 56 #[.agg (ofL x s).toArray, .agg (ofL y t).toArray, .int .i64 7] w (BtPost w (bt 7 x y)) := by
  obtain ⟨r, hr⟩ : ∃ z, bt 7 x y = z := ⟨_, rfl⟩
  have HR : Hid (bt 7 x y = r) := hr
  have H1 : Hid (Lst EI w s.p x.path) := h1
  have H2 : Hid (Lst EI w t.p y.path) := h2
  rw [hr]
  clear hr h1 h2
  go_enter Try.func56, Try.ntmps56
  go_upto_region 1 with first | (refine list_sboxf OfK rfl _ rfl (cs := ofL x s) rfl ?_; intro b1 W0 hx hg hbf hgs) | (refine list_sboxf OfK rfl _ rfl (cs := ofL y t) rfl ?_; intro b2 W1 hx2 hg2 hbf2 hgs2)
  have hs1 := hx.out.blk (hg2.out.bel.block b1 (SB.lt hx.out))
  have HB1 : Hid (Gw w W1) := hg.out.trans hg2.out
  have c1 : W1.cell? ⟨b1, 12, none⟩ = some (.int .i64 x.cost) := hs1.cell 12
  have c2 : W1.cell? ⟨b2, 12, none⟩ = some (.int .i64 y.cost) := hx2.out.cell 12
  obtain ⟨u, hu⟩ : ∃ q, x.cost = q := ⟨_, rfl⟩
  obtain ⟨v, hv⟩ : ∃ q, y.cost = q := ⟨_, rfl⟩
  have HE : Hid (decide (v < u) = r) := by show _ = _; rw [← HR.out, ← hu, ← hv]; rfl
  rw [hu] at c1
  rw [hv] at c2
  clear hu hv HR hx hg hbf hgs hx2 hg2 hbf2 hgs2 hs1
  go_wp2_with fail
  go_ret
  exact ⟨by rw [← HE.out]; try rfl, HB1.out.bel⟩
set_option maxRecDepth 100000 in
set_option maxHeartbeats 8000000 in
theorem rbt8_any (x : Of) (s : Oa) (y : Of) (t : Oa) (w : World) (h1 : Lst EI w s.p x.path) (h2 : Lst EI w t.p y.path) : Calls Try.prog 56 #[.agg (ofL x s).toArray, .agg (ofL y t).toArray, .int .i64 8] w (BtPost w (bt 8 x y)) := by
  obtain ⟨r, hr⟩ : ∃ z, bt 8 x y = z := ⟨_, rfl⟩
  have HR : Hid (bt 8 x y = r) := hr
  have H1 : Hid (Lst EI w s.p x.path) := h1
  have H2 : Hid (Lst EI w t.p y.path) := h2
  rw [hr]
  clear hr h1 h2
  go_enter Try.func56, Try.ntmps56
  go_upto_region 1 with first | (refine list_sboxf OfK rfl _ rfl (cs := ofL x s) rfl ?_; intro b1 W0 hx hg hbf hgs) | (refine list_sboxf OfK rfl _ rfl (cs := ofL y t) rfl ?_; intro b2 W1 hx2 hg2 hbf2 hgs2)
  have hs1 := hx.out.blk (hg2.out.bel.block b1 (SB.lt hx.out))
  have HB1 : Hid (Gw w W1) := hg.out.trans hg2.out
  have c1 : W1.cell? ⟨b1, 8, none⟩ = some (.slice s.c x.clus.length s.cc) := hs1.cell 8
  have c2 : W1.cell? ⟨b2, 8, none⟩ = some (.slice t.c y.clus.length t.cc) := hx2.out.cell 8
  obtain ⟨u, hu⟩ : ∃ q, x.clus.length = q := ⟨_, rfl⟩
  obtain ⟨v, hv⟩ : ∃ q, y.clus.length = q := ⟨_, rfl⟩
  have HE : Hid (decide (v < u) = r) := by show _ = _; rw [← HR.out, ← hu, ← hv]; rfl
  rw [hu] at c1
  rw [hv] at c2
  clear hu hv HR hx hg hbf hgs hx2 hg2 hbf2 hgs2 hs1
  go_wp2_with fail
  go_ret
  exact ⟨by rw [← HE.out]; try rfl, HB1.out.bel⟩
set_option maxRecDepth 100000 in
set_option maxHeartbeats 8000000 in
theorem rbt9_any (x : Of) (s : Oa) (y : Of) (t : Oa) (w : World) (h1 : Lst EI w s.p x.path) (h2 : Lst EI w t.p y.path) : Calls Try.prog 56 #[.agg (ofL x s).toArray, .agg (ofL y t).toArray, .int .i64 9] w (BtPost w (bt 9 x y)) := by
  obtain ⟨r, hr⟩ : ∃ z, bt 9 x y = z := ⟨_, rfl⟩
  have HR : Hid (bt 9 x y = r) := hr
  have H1 : Hid (Lst EI w s.p x.path) := h1
  have H2 : Hid (Lst EI w t.p y.path) := h2
  rw [hr]
  clear hr h1 h2
  go_enter Try.func56, Try.ntmps56
  go_upto_region 1 with first | (refine list_sboxf OfK rfl _ rfl (cs := ofL x s) rfl ?_; intro b1 W0 hx hg hbf hgs) | (refine list_sboxf OfK rfl _ rfl (cs := ofL y t) rfl ?_; intro b2 W1 hx2 hg2 hbf2 hgs2)
  have hs1 := hx.out.blk (hg2.out.bel.block b1 (SB.lt hx.out))
  have HB1 : Hid (Gw w W1) := hg.out.trans hg2.out
  have c1 : W1.cell? ⟨b1, 9, none⟩ = some (.int .i64 x.auth) := hs1.cell 9
  have c2 : W1.cell? ⟨b2, 9, none⟩ = some (.int .i64 y.auth) := hx2.out.cell 9
  obtain ⟨u, hu⟩ : ∃ q, x.auth = q := ⟨_, rfl⟩
  obtain ⟨v, hv⟩ : ∃ q, y.auth = q := ⟨_, rfl⟩
  have HE : Hid (decide (v < u) = r) := by show _ = _; rw [← HR.out, ← hu, ← hv]; rfl
  rw [hu] at c1
  rw [hv] at c2
  clear hu hv HR hx hg hbf hgs hx2 hg2 hbf2 hgs2 hs1
  go_wp2_with fail
  go_ret
  exact ⟨by rw [← HE.out]; try rfl, HB1.out.bel⟩
set_option maxRecDepth 100000 in
set_option maxHeartbeats 8000000 in
theorem rbt10_any (x : Of) (s : Oa) (y : Of) (t : Oa) (w : World) (h1 : Lst EI w s.p x.path) (h2 : Lst EI w t.p y.path) : Calls Try.prog 56 #[.agg (ofL x s).toArray, .agg (ofL y t).toArray, .int .i64 10] w (BtPost w (bt 10 x y)) := by
  obtain ⟨r, hr⟩ : ∃ z, bt 10 x y = z := ⟨_, rfl⟩
  have HR : Hid (bt 10 x y = r) := hr
  have H1 : Hid (Lst EI w s.p x.path) := h1
  have H2 : Hid (Lst EI w t.p y.path) := h2
  rw [hr]
  clear hr h1 h2
  go_enter Try.func56, Try.ntmps56
  go_upto_region 1 with first | (refine list_sboxf OfK rfl _ rfl (cs := ofL x s) rfl ?_; intro b1 W0 hx hg hbf hgs) | (refine list_sboxf OfK rfl _ rfl (cs := ofL y t) rfl ?_; intro b2 W1 hx2 hg2 hbf2 hgs2)
  have hs1 := hx.out.blk (hg2.out.bel.block b1 (SB.lt hx.out))
  have HB1 : Hid (Gw w W1) := hg.out.trans hg2.out
  have c1 : W1.cell? ⟨b1, 10, none⟩ = some (.int .i64 x.peer) := hs1.cell 10
  have c2 : W1.cell? ⟨b2, 10, none⟩ = some (.int .i64 y.peer) := hx2.out.cell 10
  obtain ⟨u, hu⟩ : ∃ q, x.peer = q := ⟨_, rfl⟩
  obtain ⟨v, hv⟩ : ∃ q, y.peer = q := ⟨_, rfl⟩
  have HE : Hid (decide (v < u) = r) := by show _ = _; rw [← HR.out, ← hu, ← hv]; rfl
  rw [hu] at c1
  rw [hv] at c2
  clear hu hv HR hx hg hbf hgs hx2 hg2 hbf2 hgs2 hs1
  go_wp2_with fail
  go_ret
  exact ⟨by rw [← HE.out]; try rfl, HB1.out.bel⟩
set_option maxRecDepth 100000 in
set_option maxHeartbeats 8000000 in
theorem rbt5_any (x : Of) (s : Oa) (y : Of) (t : Oa) (w : World) (h1 : Lst EI w s.p x.path) (h2 : Lst EI w t.p y.path) : Calls Try.prog 56 #[.agg (ofL x s).toArray, .agg (ofL y t).toArray, .int .i64 5] w (BtPost w (bt 5 x y)) := by
  obtain ⟨r, hr⟩ : ∃ z, bt 5 x y = z := ⟨_, rfl⟩
  have HR : Hid (bt 5 x y = r) := hr
  have H1 : Hid (Lst EI w s.p x.path) := h1
  have H2 : Hid (Lst EI w t.p y.path) := h2
  rw [hr]
  clear hr h1 h2
  go_enter Try.func56, Try.ntmps56
  go_upto_region 1 with first | (refine list_sboxf OfK rfl _ rfl (cs := ofL x s) rfl ?_; intro b1 W0 hx hg hbf hgs) | (refine list_sboxf OfK rfl _ rfl (cs := ofL y t) rfl ?_; intro b2 W1 hx2 hg2 hbf2 hgs2)
  have hs1 := hx.out.blk (hg2.out.bel.block b1 (SB.lt hx.out))
  have HB1 : Hid (Gw w W1) := hg.out.trans hg2.out
  have HS : Hid (∀ W, Gw W1 W → SB OfK b1 (ofL x s) W ∧ SB OfK b2 (ofL y t) W ∧ W.cell? ⟨b1, 5, none⟩ = some (.int .i64 x.med) ∧ W.cell? ⟨b2, 5, none⟩ = some (.int .i64 y.med)) := fun W hW => by
    have k1 := SB.gw hs1 hW
    have k2 := SB.gw hx2.out hW
    exact ⟨k1, k2, k1.cell 5, k2.cell 5⟩
  clear hx hg hbf hgs hx2 hg2 hbf2 hgs2 hs1
  have HE : Hid ((decide (nbP x = nbP y) && decide (y.med < x.med)) = r) := HR.out
  obtain ⟨z1, hz1⟩ : ∃ z, nbP x = z := ⟨_, rfl⟩
  obtain ⟨z2, hz2⟩ : ∃ z, nbP y = z := ⟨_, rfl⟩
  obtain ⟨u, hu⟩ : ∃ q, x.med = q := ⟨_, rfl⟩
  obtain ⟨v, hv⟩ : ∃ q, y.med = q := ⟨_, rfl⟩
  rw [hz1, hz2, hu, hv] at HE
  rw [hu, hv] at HS
  have HZ : Hid (nbP x = z1 ∧ nbP y = z2) := ⟨hz1, hz2⟩
  clear hu hv HR hz1 hz2
  go_upto_region 9 with fail
  refine wp_region_held_drew (S := fun W => Gw W1 W) (by kernel_rfl) (Gw.dn W1 1) (fun hHeld => ?_)
  obtain ⟨wd, hwd⟩ : ∃ y, W1.drew = y := ⟨_, rfl⟩
  have HWD : Hid (Gw W1 wd) := by rw [← hwd]; exact Gw.dn W1 1
  rw [hwd] at hHeld ⊢
  clear hwd
  refine wpAnyH_take (i := 0) (v := .agg (ofL x s).toArray) rfl (by kernel_rfl) (by kernel_rfl) (by kernel_rfl) (fun _ _ _ h => h) (Or.inl ⟨by rfl, (fun W hSw => sload_run OfK (.tmp 3) rfl rfl (HS.out W hSw).1 rfl)⟩) (by assumption) ?_
  try simp only [Act.put, List.getElem_toArray, List.getElem_cons_zero, List.getElem_cons_succ, List.setIfInBounds_toArray, List.set_cons_zero, List.set_cons_succ]
  refine wpAnyH_take (i := 2) (v := .agg (ofL y t).toArray) rfl (by kernel_rfl) (by kernel_rfl) (by kernel_rfl) (fun _ _ _ h => h) (Or.inl ⟨by rfl, (fun W hSw => sload_run OfK (.tmp 4) rfl rfl (HS.out W hSw).2.1 rfl)⟩) (by assumption) ?_
  try simp only [Act.put, List.getElem_toArray, List.getElem_cons_zero, List.getElem_cons_succ, List.setIfInBounds_toArray, List.set_cons_zero, List.set_cons_succ]
  refine wpAnyH_ready (rs := [1]) (by kernel_rfl) (by simp) ?_
  refine AllReadyH.cons rfl (fun K hK => ?_) AllReadyH.nil
  go_simp
  refine (rnb_any x s wd (H1.out.bel (HB1.out.trans HWD.out).bel)).mono ?_
  rintro e w2 ⟨rfl, hgw⟩
  have HG2 : Hid (Gw W1 w2) := HWD.out.trans hgw
  clear hgw
  refine hK.out _ _ HG2.out (fun hHeld => ?_)
  clear hK K
  try simp only [Act.put, List.getElem_toArray, List.getElem_cons_zero, List.getElem_cons_succ, List.setIfInBounds_toArray, List.set_cons_zero, List.set_cons_succ]
  rw [HZ.out.1]
  refine wpAnyH_ready (rs := [3]) (by kernel_rfl) (by simp) ?_
  refine AllReadyH.cons rfl (fun K hK => ?_) AllReadyH.nil
  go_simp
  refine (rnb_any y t w2 (H2.out.bel (HB1.out.trans HG2.out).bel)).mono ?_
  rintro e w3 ⟨rfl, hgw⟩
  have HG3 : Hid (Gw W1 w3) := HG2.out.trans hgw
  clear hgw
  refine hK.out _ _ HG3.out (fun hHeld => ?_)
  clear hK K
  try simp only [Act.put, List.getElem_toArray, List.getElem_cons_zero, List.getElem_cons_succ, List.setIfInBounds_toArray, List.set_cons_zero, List.set_cons_succ]
  rw [HZ.out.2]
  by_cases hzz : z1 = z2
  case neg =>
    have hb1 : (z1 == z2) = false := by simpa using hzz
    have HF : Hid (false = r) := by show _ = _; rw [← HE.out, decide_eq_false hzz]; rfl
    refine wpAnyH_take (i := 4) (v := .bool false) rfl (by kernel_rfl) (by kernel_rfl) (by kernel_rfl) (fun _ _ _ h => h) (Or.inl ⟨by rfl, ?_⟩) (by assumption) ?_
    case refine_1 => intro W hSw; go_simp; try rfl
    try simp only [Act.put, List.getElem_toArray, List.getElem_cons_zero, List.getElem_cons_succ, List.setIfInBounds_toArray, List.set_cons_zero, List.set_cons_succ]
    refine wpAnyH_take (i := 5) (v := .bool false) rfl (by kernel_rfl) (by kernel_rfl) (by kernel_rfl) (fun _ _ _ h => h) (Or.inl ⟨by rfl, ?_⟩) (by assumption) ?_
    case refine_1 => intro W hSw; go_simp; try rfl
    try simp only [Act.put, List.getElem_toArray, List.getElem_cons_zero, List.getElem_cons_succ, List.setIfInBounds_toArray, List.set_cons_zero, List.set_cons_succ]
    refine wpAnyH_take (i := 6) (v := undef) rfl (by kernel_rfl) (by kernel_rfl) (by kernel_rfl) (fun _ _ _ h => h) (Or.inr ⟨by rfl, rfl⟩) (by assumption) ?_
    try simp only [Act.put, List.getElem_toArray, List.getElem_cons_zero, List.getElem_cons_succ, List.setIfInBounds_toArray, List.set_cons_zero, List.set_cons_succ]
    refine wpAnyH_take (i := 7) (v := undef) rfl (by kernel_rfl) (by kernel_rfl) (by kernel_rfl) (fun _ _ _ h => h) (Or.inr ⟨by rfl, rfl⟩) (by assumption) ?_
    try simp only [Act.put, List.getElem_toArray, List.getElem_cons_zero, List.getElem_cons_succ, List.setIfInBounds_toArray, List.set_cons_zero, List.set_cons_succ]
    refine wpAnyH_take (i := 8) (v := undef) rfl (by kernel_rfl) (by kernel_rfl) (by kernel_rfl) (fun _ _ _ h => h) (Or.inr ⟨by rfl, rfl⟩) (by assumption) ?_
    try simp only [Act.put, List.getElem_toArray, List.getElem_cons_zero, List.getElem_cons_succ, List.setIfInBounds_toArray, List.set_cons_zero, List.set_cons_succ]
    refine wpAnyH_take (i := 9) (v := undef) rfl (by kernel_rfl) (by kernel_rfl) (by kernel_rfl) (fun _ _ _ h => h) (Or.inr ⟨by rfl, rfl⟩) (by assumption) ?_
    try simp only [Act.put, List.getElem_toArray, List.getElem_cons_zero, List.getElem_cons_succ, List.setIfInBounds_toArray, List.set_cons_zero, List.set_cons_succ]
    refine wpAnyH_take (i := 10) (v := undef) rfl (by kernel_rfl) (by kernel_rfl) (by kernel_rfl) (fun _ _ _ h => h) (Or.inr ⟨by rfl, rfl⟩) (by assumption) ?_
    try simp only [Act.put, List.getElem_toArray, List.getElem_cons_zero, List.getElem_cons_succ, List.setIfInBounds_toArray, List.set_cons_zero, List.set_cons_succ]
    refine wpAnyH_take (i := 11) (v := undef) rfl (by kernel_rfl) (by kernel_rfl) (by kernel_rfl) (fun _ _ _ h => h) (Or.inr ⟨by rfl, rfl⟩) (by assumption) ?_
    try simp only [Act.put, List.getElem_toArray, List.getElem_cons_zero, List.getElem_cons_succ, List.setIfInBounds_toArray, List.set_cons_zero, List.set_cons_succ]
    refine wpAnyH_take (i := 12) (v := undef) rfl (by kernel_rfl) (by kernel_rfl) (by kernel_rfl) (fun _ _ _ h => h) (Or.inr ⟨by rfl, rfl⟩) (by assumption) ?_
    try simp only [Act.put, List.getElem_toArray, List.getElem_cons_zero, List.getElem_cons_succ, List.setIfInBounds_toArray, List.set_cons_zero, List.set_cons_succ]
    refine wpAnyH_take (i := 13) (v := .bool false) rfl (by kernel_rfl) (by kernel_rfl) (by kernel_rfl) (fun _ _ _ h => h) (Or.inl ⟨by rfl, ?_⟩) (by assumption) ?_
    case refine_1 => intro W hSw; go_simp; try rfl
    try simp only [Act.put, List.getElem_toArray, List.getElem_cons_zero, List.getElem_cons_succ, List.setIfInBounds_toArray, List.set_cons_zero, List.set_cons_succ]
    refine wpAnyH_take (i := 14) (v := .bool false) rfl (by kernel_rfl) (by kernel_rfl) (by kernel_rfl) (fun _ _ _ h => h) (Or.inl ⟨by rfl, ?_⟩) (by assumption) ?_
    case refine_1 => intro W hSw; go_simp; try rfl
    try simp only [Act.put, List.getElem_toArray, List.getElem_cons_zero, List.getElem_cons_succ, List.setIfInBounds_toArray, List.set_cons_zero, List.set_cons_succ]
    refine wpAnyH_done (by kernel_rfl) ?_ _
    clear hHeld
    go_wp2_with fail
    go_ret
    exact ⟨by rw [← HF.out]; try rfl, (HB1.out.trans HG3.out).bel⟩
  case pos =>
    have hb1 : (z1 == z2) = true := by simpa using hzz
    have HF : Hid (decide (v < u) = r) := by show _ = _; rw [← HE.out, decide_eq_true hzz]; rfl
    refine wpAnyH_take (i := 4) (v := .bool true) rfl (by kernel_rfl) (by kernel_rfl) (by kernel_rfl) (fun _ _ _ h => h) (Or.inl ⟨by rfl, ?_⟩) (by assumption) ?_
    case refine_1 => intro W hSw; go_simp; try rfl
    try simp only [Act.put, List.getElem_toArray, List.getElem_cons_zero, List.getElem_cons_succ, List.setIfInBounds_toArray, List.set_cons_zero, List.set_cons_succ]
    refine wpAnyH_take (i := 5) (v := .bool true) rfl (by kernel_rfl) (by kernel_rfl) (by kernel_rfl) (fun _ _ _ h => h) (Or.inl ⟨by rfl, ?_⟩) (by assumption) ?_
    case refine_1 => intro W hSw; go_simp; try rfl
    try simp only [Act.put, List.getElem_toArray, List.getElem_cons_zero, List.getElem_cons_succ, List.setIfInBounds_toArray, List.set_cons_zero, List.set_cons_succ]
    refine wpAnyH_take (i := 6) (v := .pointer (some ⟨b1, 0, none⟩)) rfl (by kernel_rfl) (by kernel_rfl) (by kernel_rfl) (fun _ _ _ h => h) (Or.inl ⟨by rfl, ?_⟩) (by assumption) ?_
    case refine_1 => intro W hSw; go_simp; try rfl
    try simp only [Act.put, List.getElem_toArray, List.getElem_cons_zero, List.getElem_cons_succ, List.setIfInBounds_toArray, List.set_cons_zero, List.set_cons_succ]
    refine wpAnyH_take (i := 7) (v := .pointer (some ⟨b1, 5, none⟩)) rfl (by kernel_rfl) (by kernel_rfl) (by kernel_rfl) (fun _ _ _ h => h) (Or.inl ⟨by rfl, ?_⟩) (by assumption) ?_
    case refine_1 => intro W hSw; go_simp; try rfl
    try simp only [Act.put, List.getElem_toArray, List.getElem_cons_zero, List.getElem_cons_succ, List.setIfInBounds_toArray, List.set_cons_zero, List.set_cons_succ]
    refine wpAnyH_take (i := 8) (v := .int .i64 u) rfl (by kernel_rfl) (by kernel_rfl) (by kernel_rfl) (fun _ _ _ h => h) (Or.inl ⟨by rfl, ?_⟩) (by assumption) ?_
    case refine_1 => intro W hSw; have m1 := (HS.out W hSw).2.2.1; have m2 := (HS.out W hSw).2.2.2; go_simp; try rfl
    try simp only [Act.put, List.getElem_toArray, List.getElem_cons_zero, List.getElem_cons_succ, List.setIfInBounds_toArray, List.set_cons_zero, List.set_cons_succ]
    refine wpAnyH_take (i := 9) (v := .pointer (some ⟨b2, 0, none⟩)) rfl (by kernel_rfl) (by kernel_rfl) (by kernel_rfl) (fun _ _ _ h => h) (Or.inl ⟨by rfl, ?_⟩) (by assumption) ?_
    case refine_1 => intro W hSw; go_simp; try rfl
    try simp only [Act.put, List.getElem_toArray, List.getElem_cons_zero, List.getElem_cons_succ, List.setIfInBounds_toArray, List.set_cons_zero, List.set_cons_succ]
    refine wpAnyH_take (i := 10) (v := .pointer (some ⟨b2, 5, none⟩)) rfl (by kernel_rfl) (by kernel_rfl) (by kernel_rfl) (fun _ _ _ h => h) (Or.inl ⟨by rfl, ?_⟩) (by assumption) ?_
    case refine_1 => intro W hSw; go_simp; try rfl
    try simp only [Act.put, List.getElem_toArray, List.getElem_cons_zero, List.getElem_cons_succ, List.setIfInBounds_toArray, List.set_cons_zero, List.set_cons_succ]
    refine wpAnyH_take (i := 11) (v := .int .i64 v) rfl (by kernel_rfl) (by kernel_rfl) (by kernel_rfl) (fun _ _ _ h => h) (Or.inl ⟨by rfl, ?_⟩) (by assumption) ?_
    case refine_1 => intro W hSw; have m1 := (HS.out W hSw).2.2.1; have m2 := (HS.out W hSw).2.2.2; go_simp; try rfl
    try simp only [Act.put, List.getElem_toArray, List.getElem_cons_zero, List.getElem_cons_succ, List.setIfInBounds_toArray, List.set_cons_zero, List.set_cons_succ]
    refine wpAnyH_take (i := 12) (v := .bool (decide (v < u))) rfl (by kernel_rfl) (by kernel_rfl) (by kernel_rfl) (fun _ _ _ h => h) (Or.inl ⟨by rfl, ?_⟩) (by assumption) ?_
    case refine_1 => intro W hSw; go_simp; try rfl
    try simp only [Act.put, List.getElem_toArray, List.getElem_cons_zero, List.getElem_cons_succ, List.setIfInBounds_toArray, List.set_cons_zero, List.set_cons_succ]
    refine wpAnyH_take (i := 13) (v := .bool (decide (v < u))) rfl (by kernel_rfl) (by kernel_rfl) (by kernel_rfl) (fun _ _ _ h => h) (Or.inl ⟨by rfl, ?_⟩) (by assumption) ?_
    case refine_1 => intro W hSw; go_simp; try rfl
    try simp only [Act.put, List.getElem_toArray, List.getElem_cons_zero, List.getElem_cons_succ, List.setIfInBounds_toArray, List.set_cons_zero, List.set_cons_succ]
    refine wpAnyH_take (i := 14) (v := .bool (decide (v < u))) rfl (by kernel_rfl) (by kernel_rfl) (by kernel_rfl) (fun _ _ _ h => h) (Or.inl ⟨by rfl, ?_⟩) (by assumption) ?_
    case refine_1 => intro W hSw; go_simp; try rfl
    try simp only [Act.put, List.getElem_toArray, List.getElem_cons_zero, List.getElem_cons_succ, List.setIfInBounds_toArray, List.set_cons_zero, List.set_cons_succ]
    refine wpAnyH_done (by kernel_rfl) ?_ _
    clear hHeld
    go_wp2_with fail
    go_ret
    exact ⟨by rw [← HF.out]; try rfl, (HB1.out.trans HG3.out).bel⟩
theorem rbt_any (k : Nat) (hk2 : 2 ≤ k) (hk : k ≤ 10) (x : Of) (s : Oa) (y : Of) (t : Oa) (w : World) (h1 : Lst EI w s.p x.path) (h2 : Lst EI w t.p y.path) : Calls Try.prog 56 #[.agg (ofL x s).toArray, .agg (ofL y t).toArray, .int .i64 (k : Int)] w (BtPost w (bt k x y)) := by
  rcases k with _ | _ | _ | _ | _ | _ | _ | _ | _ | _ | _ | k
  · omega
  · omega
  · exact rbt2_any x s y t w h1 h2
  · exact rbt3_any x s y t w h1 h2
  · exact rbt4_any x s y t w h1 h2
  · exact rbt5_any x s y t w h1 h2
  · exact rbt6_any x s y t w h1 h2
  · exact rbt7_any x s y t w h1 h2
  · exact rbt8_any x s y t w h1 h2
  · exact rbt9_any x s y t w h1 h2
  · exact rbt10_any x s y t w h1 h2
  · omega
set_option maxRecDepth 100000 in
set_option maxHeartbeats 8000000 in
theorem rfirst_any (a : Option Addr) (n c : Nat) (f : Nat → Bool) (w : World) (h : Lst EB w a (bl n f)) : Calls Try.prog 37 #[.slice a n c] w fun e w' => e = .returned (.int .i64 (bsI (firstP f n))) ∧ w' = w := by
  have H : Hid (Lst EB w a (bl n f)) := h
  have hsm := h.small
  rw [bl_len] at hsm
  obtain ⟨z, hz⟩ : ∃ z, bsI (firstP f n) = z := ⟨_, rfl⟩
  have HZ : Hid (bsI (firstP f n) = z) := hz
  rw [hz]
  clear h hz
  go_enter Try.func37, Try.ntmps37
  go_wp2_with fail
  go_loopw [6, 3] (fun iv _ wr => ∃ i : Nat, i ≤ n ∧ iv = .int .i64 (i : Int) ∧ (∀ j, j < i → f j = false) ∧ wr = w) (fun i _ _ => n - (intOf i).toNat)
  case atStart => exact ⟨0, by omega, rfl, fun j hj => by omega, rfl⟩
  case round =>
    obtain ⟨i, hi, rfl, hno, rfl⟩ := hrel
    have HNO : Hid (∀ j, j < i → f j = false) := hno
    clear hno
    by_cases hlt : i < n
    case neg =>
      have hii : ¬ (i : Int) < (n : Int) := by omega
      have HE : Hid (z = -1) := by show _ = _; rw [← HZ.out, first_none (fun j hj => HNO.out j (by omega))]; rfl
      go_wp2_with fail
      go_ret
      exact ⟨by rw [HE.out]; try rfl, rfl⟩
    have hii : (i : Int) < (n : Int) := by omega
    have ii0 : (0 : Int) ≤ (i : Int) := by omega
    obtain ⟨b, o, rfl, hbl', k1⟩ := eb_get H.out (i := i) (by rw [bl_len]; exact hlt)
    rw [bl_at] at k1
    obtain ⟨t, ht⟩ : ∃ y, f i = y := ⟨_, rfl⟩
    have HT : Hid (f i = t) := ht
    rw [ht] at k1
    clear ht hbl'
    cases t
    case true =>
      have HE : Hid (z = (i : Int)) := by show _ = _; rw [← HZ.out, first_some hlt HT.out HNO.out]; rfl
      go_wp2_with fail
      go_ret
      exact ⟨by rw [HE.out]; try rfl, rfl⟩
    case false =>
      have HN2 : Hid (∀ j, j < i + 1 → f j = false) := fun j hj => by
        rcases Nat.lt_succ_iff_lt_or_eq.1 hj with h5 | rfl
        · exact HNO.out j h5
        · exact HT.out
      go_wp2_with fail
      refine ⟨⟨i + 1, by omega, by simp, HN2.out, by trivial⟩, ?_⟩
      simp [intOf]
      omega
end Go.Proofs.Ytkahjibdmhaglaa.Ch
