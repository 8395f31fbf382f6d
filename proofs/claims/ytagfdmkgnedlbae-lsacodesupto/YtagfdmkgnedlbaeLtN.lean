/- lsaDecodes: what it answers. -/
import Derived.Test.YtagfdmkgnedlbaeLtM
namespace Go.Proofs.Ytagfdmkgnedlbae.Ls
open Go.ChangeShapes Go.WideShapes Go.ChangeAt Go.RowKit Go.Joins Go.Proofs.Ytagfdmkgnedlbae.PM Go.Proofs.Ytagfdmkgnedlbae.Ask
set_option linter.unusedVariables false

theorem dec_few {bs : List Nat} {p : Pk} {er : Int} (h : decP bs = (p, er)) : p.xs.length ≤ 16 ∧ ∀ x ∈ p.xs, right x = true := by
  have hno : (noPk.xs.length ≤ 16 ∧ ∀ x ∈ noPk.xs, right x = true) := ⟨by decide, fun x hx => by cases hx⟩
  unfold decP at h
  split at h
  · unfold decB at h
    dsimp only at h
    split at h
    · cases h; exact hno
    · split at h
      · cases h; exact hno
      · split at h
        · cases h; exact hno
        · rename_i h3
          cases h
          have h4 := range_of (by simpa using h3)
          exact h4.2.2.2
  · cases h; exact hno
theorem grown_below {W W' : World} {N : Nat} {o : Option Nat} (hg : W.grownBy W' o) (hN : N ≤ W.heap.size) (ho : ∀ g, o = some g → N ≤ g) : Below N W W' := (Below.refl _ W).grown hg hN ho
set_option maxRecDepth 100000 in
set_option maxHeartbeats 32000000 in
theorem decodes_any (va : Option Addr) (cap : Nat) (bs : List Nat) (L : Nat) (hL : bs.length = L) (hcap : L ≤ cap) (hbig : L ≤ 1048576) (hnil : va = none → L = 0 ∧ cap = 0) (w : World) (hx : By w va bs) :
    Calls Try.prog 21 #[.slice va L cap] w fun e w' => e = .returned (.bool true) ∧ Below w.heap.size w w' := by
  obtain ⟨⟨p, er⟩, hd⟩ : ∃ y, decP bs = y := ⟨_, rfl⟩
  have HX : Hid (By w va bs) := hx
  have HLX : Hid (bs.length = L) := hL
  have HD : Hid (decP bs = (p, er)) := hd
  have HNIL : Hid (va = none → L = 0 ∧ cap = 0) := hnil
  have HU8 : Hid (∀ d ∈ bs ++ [1, 2, 3], d < 256) := by
    intro d hd
    rcases List.mem_append.1 hd with h1 | h1
    · exact hx.u8 d h1
    · simp at h1; omega
  have HLR : Hid ((bs ++ [1, 2, 3]).length = L + 3) := by show _ = _; rw [List.length_append, hL]; rfl
  have HFEW := dec_few hd
  obtain ⟨n, hn⟩ : ∃ n, p.xs.length = n := ⟨_, rfl⟩
  have HN : Hid (p.xs.length = n) := hn
  have hn16 : n ≤ 16 := by rw [← hn]; exact HFEW.1
  have HRT : Hid (∀ x ∈ p.xs, right x = true) := HFEW.2
  clear hx hL hd hnil HFEW hn
  go_enter Try.func21, Try.ntmps21
  go_wp2_with fail
  refine (rdecode_any va cap bs L HLX.out hcap w HX.out p er HD.out).mono ?_
  rintro e w1 ⟨vaW, cW, ysW, rfl, hyW, hdW, hbW⟩
  unfold pkV
  rw [HN.out] at hdW ⊢
  have HYW : Hid (ysW.map It.x = p.xs) := hyW
  have HW1 : Hid (DO w.heap.size w1 (.slice vaW n cW) ysW ∧ Below w.heap.size w w1) := ⟨hdW, hbW⟩
  clear hyW hdW hbW
  obtain ⟨w2, hw2⟩ : ∃ w2, w1.alloc (Obj.cells #[.int .i64 p.kind, .int .i64 p.frm, .int .i64 p.area, .int .i64 p.seen, .slice vaW n cW] 36) = w2 := ⟨_, rfl⟩
  obtain ⟨bW, hbW⟩ : ∃ b, w1.heap.size = b := ⟨_, rfl⟩
  have HW2 : Hid (PBox bW p.kind p.frm p.area p.seen (.slice vaW n cW) w2 ∧ Below w1.heap.size w1 w2 ∧ w2.heap.size = bW + 1) := by
    obtain ⟨a1, a2, a3, a4⟩ := pbox_new hw2
    rw [hbW] at a1 a4
    exact ⟨a1, a3, a4⟩
  have hs2 : w2.heap.size = bW + 1 := HW2.out.2.2
  obtain ⟨w3, hw3⟩ : ∃ w3, w2.alloc (Obj.cells #[] 5) = w3 := ⟨_, rfl⟩
  have hoe := own_empty hw3
  rw [hs2] at hoe
  have HE3 : Hid (OwnB (bW + 1) w3 (.slice (some ⟨bW + 1, 0, none⟩) 0 0) [] ∧ Below w2.heap.size w2 w3) := ⟨hoe.1, by rw [hs2]; exact hoe.2⟩
  have hB3 : Below w.heap.size w w3 := (HW1.out.2.trans (HW2.out.2.1.mono HW1.out.2.size)).trans (HE3.out.2.mono (by have := HW1.out.2.size; omega))
  have HB3 : Hid (Below w.heap.size w w3) := hB3
  have HX3 : Hid (By w3 va bs) := HX.out.bel hB3
  have hM3 : bW + 1 ≤ w3.heap.size := by have := HE3.out.2.size; omega
  have hbb : ([] : List Nat).length + L ≤ 2097152 := by simp; omega
  clear hoe hB3
  go_wp2_with (at_builtin; refine list_appX rfl _ _ rfl (bW + 1) (.slice (some ⟨bW + 1, 0, none⟩) 0 0) [] bs va L cap w3 rfl HE3.out.1 rfl HX3.out HNIL.out HLX.out hbb hM3 ?_)
  intro v4 w4 ho4 hg4
  have HO4 : Hid (OwnB (bW + 1) w4 v4 bs) := ho4.out
  have HB4 : Hid (Below (bW + 1) w3 w4) := grown_below hg4.out hM3 (fun g e => by cases e; exact Nat.le_refl _)
  clear ho4 hg4 hw3 hbb
  obtain ⟨w5, hw5⟩ : ∃ w5, w4.alloc (Obj.cells #[.int .u8 1, .int .u8 2, .int .u8 3] 5) = w5 := ⟨_, rfl⟩
  have HT5 : Hid (By w5 (some ⟨w4.heap.size, 0, none⟩) [1, 2, 3] ∧ Below w4.heap.size w4 w5) := by_three hw5
  have HO5 : Hid (OwnB (bW + 1) w5 v4 bs) := HO4.out.bel HT5.out.2
  have hM5 : bW + 1 ≤ w5.heap.size := by have := HB4.out.size; have := HT5.out.2.size; omega
  have hb5 : bs.length + 3 ≤ 2097152 := by rw [HLX.out]; omega
  go_wp2_with (at_builtin; refine list_appX rfl _ _ rfl (bW + 1) v4 bs [1, 2, 3] (some ⟨w4.heap.size, 0, none⟩) 3 3 w5 rfl HO5.out rfl HT5.out.1 (fun e => by cases e) rfl hb5 hM5 ?_)
  intro v6 w6 ho6 hg6
  obtain ⟨r, rc, hv6, hr1, hr2, hr3⟩ := ho6.out.some (by rw [HLR.out]; omega)
  rw [HLR.out] at hv6 hr3
  subst hv6
  have HR6 : Hid (OwnB (bW + 1) w6 (.slice (some ⟨r, 0, none⟩) (L + 3) rc) (bs ++ [1, 2, 3])) := ho6.out
  have HB6 : Hid (Below (bW + 1) w2 w6) := by
    have h1 : Below (bW + 1) w5 w6 := grown_below hg6.out hM5 (fun g e => (HO5.out.row.lt g e).1)
    exact (((HE3.out.2.mono (by omega)).trans HB4.out).trans (HT5.out.2.mono (by have := HB4.out.size; omega))).trans h1
  have HW6 : Hid (DO w.heap.size w6 (.slice vaW n cW) ysW ∧ PBox bW p.kind p.frm p.area p.seen (.slice vaW n cW) w6 ∧ Below w.heap.size w w6) := by
    have h1 := HW1.out.1.bel HW2.out.2.1
    have h9 := HW1.out.2.size
    refine ⟨HW1.out.1.blk (fun b _ hl => ?_), HW2.out.1.blk (HB6.out.block _ (by omega)), ?_⟩
    · rw [HB6.out.block b (by omega), HW2.out.2.1.block b hl]
    · exact (HW1.out.2.trans (HW2.out.2.1.mono h9)).trans (HB6.out.mono (by omega))
  have HWL : Hid (∀ b, (b ∈ blocks ysW ∨ (Value.slice vaW n cW).ownBlock = some b) → b < bW) := fun b hb => by
    rcases hb with e | e
    · have := (HW1.out.1.blt b e).2; omega
    · have := (HW1.out.1.row.lt b e).2; omega
  have ho1 : w.heap.size ≤ bW := by have := HW1.out.2.size; omega
  clear ho6 hg6 HO5 HT5 hw5 HB4 HO4 HE3 HX3 HB3 HB6 HW2 HW1 hw2 hM3 hM5 hb5 hbW hs2
  have hL0 : (0 : Int) ≤ L := by omega
  have hLc : L ≤ rc := by omega
  have HBR : Hid (∀ W, OwnB (bW + 1) W (.slice (some ⟨r, 0, none⟩) (L + 3) rc) (bs ++ [1, 2, 3]) → By W (some ⟨r, 0, none⟩) bs) := fun W hW => by
    have h1 := (hW.by HU8.out).1.take L
    rw [← HLX.out, List.take_left] at h1
    exact h1
  go_wp2_with fail
  refine (decode_any (some ⟨r, 0, none⟩) rc bs L HLX.out hLc w6 (HBR.out w6 HR6.out) p er HD.out).mono ?_
  rintro e w7 ⟨vaO, cO, ysO, rfl, hyO, hdO, hbO⟩
  unfold pkV
  rw [HN.out] at hdO ⊢
  obtain ⟨A, hA⟩ : ∃ a, w6.heap.size = a := ⟨_, rfl⟩
  rw [hA] at hdO hbO
  have HYO : Hid (ysO.map It.x = p.xs) := hyO
  have HO7 : Hid (DO A w7 (.slice vaO n cO) ysO ∧ Below A w6 w7) := ⟨hdO, hbO⟩
  clear hyO hdO hbO
  obtain ⟨w8, hw8⟩ : ∃ w', w7.alloc (Obj.cells #[.int .i64 p.kind, .int .i64 p.frm, .int .i64 p.area, .int .i64 p.seen, .slice vaO n cO] 36) = w' := ⟨_, rfl⟩
  obtain ⟨B, hB⟩ : ∃ b, w7.heap.size = b := ⟨_, rfl⟩
  have HW8 : Hid (PBox B p.kind p.frm p.area p.seen (.slice vaO n cO) w8 ∧ Below w7.heap.size w7 w8 ∧ w8.heap.size = B + 1) := by
    obtain ⟨a1, a2, a3, a4⟩ := pbox_new hw8
    rw [hB] at a1 a4
    exact ⟨a1, a3, a4⟩
  have hsB : w8.heap.size = B + 1 := HW8.out.2.2
  have hAB : A ≤ B := by have := HO7.out.2.size; omega
  have HR8 : Hid (OwnB (bW + 1) w8 (.slice (some ⟨r, 0, none⟩) (L + 3) rc) (bs ++ [1, 2, 3])) := HR6.out.blk (fun g e => by
    have := (HR6.out.row.lt g e).2
    rw [HW8.out.2.1.block g (by omega), HO7.out.2.block g (by omega)])
  have hrA : r < A := by omega
  go_wp2_with fail
  refine (decode_any (some ⟨r, 0, none⟩) rc bs L HLX.out hLc w8 (HBR.out w8 HR8.out) p er HD.out).mono ?_
  rintro e w9 ⟨vaT, cT, ysT, rfl, hyT, hdT, hbT⟩
  unfold pkV
  rw [HN.out] at hdT ⊢
  rw [hsB] at hdT hbT
  have HYT : Hid (ysT.map It.x = p.xs) := hyT
  have HT9 : Hid (DO (B + 1) w9 (.slice vaT n cT) ysT ∧ Below (B + 1) w8 w9) := ⟨hdT, hbT⟩
  clear hyT hdT hbT
  obtain ⟨w10, hw10⟩ : ∃ w', w9.alloc (Obj.cells #[.int .i64 p.kind, .int .i64 p.frm, .int .i64 p.area, .int .i64 p.seen, .slice vaT n cT] 36) = w' := ⟨_, rfl⟩
  obtain ⟨bT, hbT⟩ : ∃ b, w9.heap.size = b := ⟨_, rfl⟩
  have HW10 : Hid (PBox bT p.kind p.frm p.area p.seen (.slice vaT n cT) w10 ∧ Below w9.heap.size w9 w10 ∧ w10.heap.size = bT + 1) := by
    obtain ⟨a1, a2, a3, a4⟩ := pbox_new hw10
    rw [hbT] at a1 a4
    exact ⟨a1, a3, a4⟩
  have hsT : w10.heap.size = bT + 1 := HW10.out.2.2
  have hBT : B + 1 ≤ bT := by have := HT9.out.2.size; omega
  have HBK : Hid (∀ b, b < B + 1 → w10.heap[b]? = w8.heap[b]?) := fun b hb => by rw [HW10.out.2.1.block b (by omega), HT9.out.2.block b hb]
  have HBK6 : Hid (∀ b, b < A → w10.heap[b]? = w6.heap[b]?) := fun b hb => by rw [HBK.out b (by omega), HW8.out.2.1.block b (by omega), HO7.out.2.block b hb]
  have HR10 : Hid (OwnB (bW + 1) w10 (.slice (some ⟨r, 0, none⟩) (L + 3) rc) (bs ++ [1, 2, 3])) := HR8.out.blk (fun g e => HBK.out g (by have := (HR8.out.row.lt g e).2; omega))
  have HO10 : Hid (DO A w10 (.slice vaO n cO) ysO) := HO7.out.1.blk (fun b _ hl => by rw [HBK.out b (by omega), HW8.out.2.1.block b hl])
  have HOL : Hid (∀ b, (b ∈ blocks ysO ∨ (Value.slice vaO n cO).ownBlock = some b) → A ≤ b ∧ b < B) := fun b hb => by
    rcases hb with e | e
    · have := HO7.out.1.blt b e; omega
    · have := HO7.out.1.row.lt b e; omega
  have HDC : Hid (DC w p n bW B bT vaW cW ysW vaO cO vaT cT ysT w10) := by
    have hwA : w.heap.size ≤ A := by have := HW6.out.2.2.size; omega
    refine ⟨?_, HW6.out.1.blk (fun b _ hl => HBK6.out b (by omega)), HWL.out, HW6.out.2.1.blk (HBK6.out _ (by omega)), HW8.out.1.blk (HBK.out _ (by omega)), ?_, fun b hb => ?_, HW10.out.1, ho1, by omega, by omega, by omega⟩
    · have h1 : Below A w6 w10 := (HO7.out.2.trans (HW8.out.2.1.mono (by omega))).trans ((HT9.out.2.mono (by omega)).trans (HW10.out.2.1.mono (by omega)))
      exact HW6.out.2.2.trans (h1.mono hwA)
    · exact (HT9.out.1.blk (fun b _ hl => HW10.out.2.1.block b hl)).mono (by omega)
    · rcases hb with e | e
      · have := HT9.out.1.blt b e; omega
      · have := HT9.out.1.row.lt b e; omega
  clear HBK HBK6 HT9 HR8 HO7 HR6 HW6 HWL
  have HALL : Hid (∀ W, DC w p n bW B bT vaW cW ysW vaO cO vaT cT ysT W → LAll W vaW p.xs ∧ LAll W vaT p.xs) := fun W h => by
    have h1 := h.want.all (by have := congrArg List.length HYW.out; rw [List.length_map, HN.out] at this; exact this)
    have h2 := h.two.all (by have := congrArg List.length HYT.out; rw [List.length_map, HN.out] at this; exact this)
    rw [HYW.out] at h1
    rw [HYT.out] at h2
    exact ⟨h1, h2⟩
  have HYOL : Hid (ysO.length = n) := by
    have := congrArg List.length HYO.out
    rw [List.length_map, HN.out] at this
    exact this
  have HFEW : Hid (∀ y ∈ ysO, y.x.links.length ≤ 1000 ∧ y.x.stubs.length ≤ 1000) := fun y hy => by
    have h1 := HO10.out.its y hy
    have h2 := right_fits (HRT.out y.x (by rw [← HYO.out]; exact List.mem_map.2 ⟨y, hy, rfl⟩)) h1.pa h1.s32
    have h3 := h2.nl
    have h4 := h2.ns
    omega
  have HPS1 := psame_any p.kind p.frm p.area p.seen vaO cO vaW cW p.xs n HN.out w10 (by have h1 := HO10.out.all HYOL.out; rw [HYO.out] at h1; exact h1) (HALL.out w10 HDC.out).1
  unfold pkV at HPS1
  obtain ⟨c0, c1, c2, c3, c4⟩ := HDC.out.xw
  obtain ⟨d0, d1, d2, d3, d4⟩ := HDC.out.xo
  go_wp2_with fail
  refine HPS1.mono ?_
  rintro e w11 ⟨rfl, hb11⟩
  have HDC1 : Hid (DC w p n bW B bT vaW cW ysW vaO cO vaT cT ysT w11) := HDC.out.fr (S := []) (Fr.bel (Fr.refl _ _) hb11) (fun b hb => by cases hb)
  have HR11 : Hid (OwnB (bW + 1) w11 (.slice (some ⟨r, 0, none⟩) (L + 3) rc) (bs ++ [1, 2, 3])) := HR10.out.bel hb11
  have HO11 : Hid (DO A w11 (.slice vaO n cO) ysO) := HO10.out.bel hb11
  clear hb11 HPS1 HDC HR10 HO10 c0 c1 c2 c3 c4 d0 d1 d2 d3 d4 hw8 hw10
  have HPS2 := psame_any p.kind p.frm p.area p.seen vaT cT vaW cW p.xs n HN.out w11 (HALL.out w11 HDC1.out).2 (HALL.out w11 HDC1.out).1
  unfold pkV at HPS2
  obtain ⟨c0, c1, c2, c3, c4⟩ := HDC1.out.xw
  obtain ⟨d0, d1, d2, d3, d4⟩ := HDC1.out.xt
  go_wp2_with fail
  refine HPS2.mono ?_
  rintro e w12 ⟨rfl, hb12⟩
  have HDC2 : Hid (DC w p n bW B bT vaW cW ysW vaO cO vaT cT ysT w12) := HDC1.out.fr (S := []) (Fr.bel (Fr.refl _ _) hb12) (fun b hb => by cases hb)
  have HR12 : Hid (OwnB (bW + 1) w12 (.slice (some ⟨r, 0, none⟩) (L + 3) rc) (bs ++ [1, 2, 3])) := HR11.out.bel hb12
  have HO12 : Hid (DO A w12 (.slice vaO n cO) ysO) := HO11.out.bel hb12
  clear hb12 HPS2 HDC1 HR11 HO11 c0 c1 c2 c3 c4 d0 d1 d2 d3 d4
  have hM12 : A ≤ w12.heap.size := by have := HDC2.out.o4; have := HDC2.out.o3; omega
  have HIN : Hid (∀ b ∈ blocks ysO, bW < b ∧ b < B) := fun b hb => by have := HOL.out b (Or.inl hb); omega
  have HPA := apart_any A p.kind p.frm p.area p.seen vaO cO vaW cW ysO n HYOL.out (by omega) HFEW.out w12 hM12 HO12.out (fun W' hf => by rw [HYO.out]; exact (HALL.out W' (HDC2.out.fr hf HIN.out)).1)
  unfold pkV at HPA
  obtain ⟨c0, c1, c2, c3, c4⟩ := HDC2.out.xw
  obtain ⟨d0, d1, d2, d3, d4⟩ := HDC2.out.xo
  go_wp2_with fail
  refine HPA.mono ?_
  rintro e w13 ⟨rfl, hdo13, hf13⟩
  have HDC3 : Hid (DC w p n bW B bT vaW cW ysW vaO cO vaT cT ysT w13) := HDC2.out.fr hf13 HIN.out
  have HR13 : Hid (OwnB (bW + 1) w13 (.slice (some ⟨r, 0, none⟩) (L + 3) rc) (bs ++ [1, 2, 3])) := HR12.out.blk (fun g e => by
    cases e
    exact hf13.block r (by omega) (fun e2 => by have := (HOL.out r (Or.inl e2)).1; omega))
  have HO13 : Hid (DO A w13 (.slice vaO n cO) ysO) := hdo13
  clear hdo13 hf13 HPA HDC2 HR12 HO12 c0 c1 c2 c3 c4 d0 d1 d2 d3 d4 hM12
  obtain ⟨d0, d1, d2, d3, d4⟩ := HDC3.out.xo
  go_wp2_with fail
  clear d0 d1 d2 d3 d4
  obtain ⟨g, HG⟩ : ∃ g, Hid ((0 < n → vaO = some ⟨g, 0, none⟩ ∧ A ≤ g ∧ g < B ∧ ¬ g ∈ blocks ysO) ∧ LO A g ysO 0 w13) := by
    by_cases h0 : 0 < n
    · obtain ⟨g, hva, hgl, hMg, hc, hfz⟩ := HO13.out.at HYOL.out 0 (by rw [HYOL.out]; omega)
      refine ⟨g, fun _ => ⟨hva, ?_⟩, ⟨fun j hj _ => ⟨HO13.out.its _ (List.getElem_mem hj), ?_⟩, fun _ => hfz⟩⟩
      · have h1 := HOL.out g (Or.inr (by rw [hva]; rfl))
        exact ⟨h1.1, h1.2, HO13.out.ap g (by rw [hva]; rfl)⟩
      · obtain ⟨g', hva', -, -, hc', -⟩ := HO13.out.at HYOL.out j hj
        rw [hva] at hva'
        cases hva'
        exact hc'
    · exact ⟨0, fun h => absurd h h0, ⟨fun j hj => absurd hj (by rw [HYOL.out]; omega), fun h => absurd h (by rw [HYOL.out]; exact h0)⟩⟩
  have HNDO : Hid ((blocks ysO).Nodup) := HO13.out.nd
  clear HO13
  go_loopw [62] (fun iv wr => ∃ k : Nat, k ≤ n ∧ iv = .int .i64 (k : Int) ∧ DC w p n bW B bT vaW cW ysW vaO cO vaT cT ysT wr ∧ OwnB (bW + 1) wr (.slice (some ⟨r, 0, none⟩) (L + 3) rc) (bs ++ [1, 2, 3]) ∧ LO A g ysO k wr) (fun i _ => n - (intOf i).toNat)
  case atStart => exact ⟨0, by omega, rfl, HDC3.out, HR13.out, HG.out.2⟩
  case round =>
    obtain ⟨k, hk, rfl, hdc, hrm, hlo⟩ := hrel
    have HDCr : Hid (DC w p n bW B bT vaW cW ysW vaO cO vaT cT ysT wr) := hdc
    have HRr : Hid (OwnB (bW + 1) wr (.slice (some ⟨r, 0, none⟩) (L + 3) rc) (bs ++ [1, 2, 3])) := hrm
    have HLO : Hid (LO A g ysO k wr) := hlo
    clear hdc hrm hlo HDC3 HR13
    have hBl : B < wr.heap.size := by have := HDCr.out.o3; have := HDCr.out.o4; omega
    by_cases hlt : k < n
    · obtain ⟨hva, hgA, hgB, hgn⟩ := HG.out.1 (by omega)
      have hkd : k < ysO.length := by rw [HYOL.out]; exact hlt
      obtain ⟨hit, hc⟩ := HLO.out.its k hkd (Nat.le_refl _)
      obtain ⟨nd1, nd2, nd3⟩ := blocks_split hkd HNDO.out
      have hfw := HFEW.out _ (List.getElem_mem hkd)
      have hfz := HLO.out.fz (by omega)
      have HON : Hid (∀ W', Fr ysO[k].bl wr W' → W'.heap[g]? = wr.heap[g]? ∧ ∀ i, LO A g ysO (k + 1) (W'.setCell ⟨g, k * 11 + 5, none⟩ (.int .i64 i))) := fun W' hf => HLO.out.one hkd HNDO.out (by omega) hgn hf
      obtain ⟨y, hy⟩ : ∃ y, ysO[k] = y := ⟨_, rfl⟩
      rw [hy] at hit hc nd1 nd2 hfw HON
      subst hva
      have a0 : wr.cell? ⟨g, k * 11, none⟩ = some (.int .i64 y.x.kind) := hc 0 (by decide)
      have a1 : wr.cell? ⟨g, k * 11 + 1, none⟩ = some (.int .i64 y.x.area) := hc 1 (by decide)
      have a2 : wr.cell? ⟨g, k * 11 + 2, none⟩ = some (.int .i64 y.x.origin) := hc 2 (by decide)
      have a3 : wr.cell? ⟨g, k * 11 + 3, none⟩ = some (.int .u32 y.x.pa) := hc 3 (by decide)
      have a4 : wr.cell? ⟨g, k * 11 + 4, none⟩ = some (.int .i64 y.x.pn) := hc 4 (by decide)
      have a5 : wr.cell? ⟨g, k * 11 + 5, none⟩ = some (.int .i64 y.x.seq) := hc 5 (by decide)
      have a6 : wr.cell? ⟨g, k * 11 + 6, none⟩ = some (.int .i64 y.x.age) := hc 6 (by decide)
      have a7 : wr.cell? ⟨g, k * 11 + 7, none⟩ = some (.slice y.la y.x.links.length y.lc) := hc 7 (by decide)
      have a8 : wr.cell? ⟨g, k * 11 + 8, none⟩ = some (.slice y.sa y.x.stubs.length y.sc) := hc 8 (by decide)
      have a9 : wr.cell? ⟨g, k * 11 + 9, none⟩ = some (.int .i64 y.x.cost) := hc 9 (by decide)
      have a10 : wr.cell? ⟨g, k * 11 + 10, none⟩ = some (.int .i64 y.x.tag) := hc 10 (by decide)
      obtain ⟨mk, hmk⟩ : ∃ m : Int, 31 + (k : Int) = m := ⟨_, rfl⟩
      have hmw : IntKind.i64.wrap (31 + (k : Int)) = mk := by rw [IntWalk.i64_in _ (by omega)]; exact hmk
      have HSP := spoil_any A y mk wr (by omega) hit nd1 hfw
      unfold lsaV at HSP
      have HA5 : Hid (wr.cell? ⟨g, k * 11 + 5, none⟩ = some (.int .i64 y.x.seq)) := a5
      have HFZ : Hid (∀ i, wr.frozen? ⟨g, i, none⟩ = false) := hfz
      have HNB : Hid (∀ b ∈ y.bl, b ∈ blocks ysO) := nd2
      have hkk : (k : Int) < n := by omega
      have kk0 : (0 : Int) ≤ k := by omega
      obtain ⟨d0, d1, d2, d3, d4⟩ := HDCr.out.xo
      clear hc hit nd1 nd2 nd3 hfw hy hfz
      go_wp2_with fail
      refine HSP.mono ?_
      rintro e w14 ⟨⟨u, rfl⟩, hf14⟩
      obtain ⟨hgb, hlo⟩ := HON.out w14 hf14
      have e5 : w14.cell? ⟨g, k * 11 + 5, none⟩ = some (.int .i64 y.x.seq) := (World.cell?_of_block (w := wr) hgb).trans HA5.out
      have f5 : ∀ i, w14.frozen? ⟨g, i, none⟩ = false := fun i => (World.frozen?_of_block (w := wr) hgb).trans (HFZ.out i)
      have HDC14 : Hid (DC w p n bW B bT vaW cW ysW (some ⟨g, 0, none⟩) cO vaT cT ysT w14) := HDCr.out.fr hf14 (fun b hb => HIN.out b (HNB.out b hb))
      have HR14 : Hid (OwnB (bW + 1) w14 (.slice (some ⟨r, 0, none⟩) (L + 3) rc) (bs ++ [1, 2, 3])) := HRr.out.blk (fun g' e => by
        cases e
        exact hf14.block r (by omega) (fun e2 => by have := (HOL.out r (Or.inl (HNB.out r e2))).1; omega))
      have HDC15 : Hid (DC w p n bW B bT vaW cW ysW (some ⟨g, 0, none⟩) cO vaT cT ysT (w14.setCell ⟨g, k * 11 + 5, none⟩ (.int .i64 (-1)))) := HDC14.out.fr (S := [g]) ((Fr.refl _ w14).set _ (Or.inl (List.mem_singleton.2 rfl))) (fun b hb => by rw [List.mem_singleton] at hb; omega)
      have HR15 : Hid (OwnB (bW + 1) (w14.setCell ⟨g, k * 11 + 5, none⟩ (.int .i64 (-1))) (.slice (some ⟨r, 0, none⟩) (L + 3) rc) (bs ++ [1, 2, 3])) := HR14.out.blk (fun g' e => by
        cases e
        exact Below.heap_setCell _ _ _ _ (by show r ≠ g; omega))
      have HLO15 : Hid (LO A g ysO (k + 1) (w14.setCell ⟨g, k * 11 + 5, none⟩ (.int .i64 (-1)))) := hlo (-1)
      clear a0 a1 a2 a3 a4 a5 a6 a7 a8 a9 a10 d0 d1 d2 d3 d4 HSP hf14 hgb hlo HR14 HDCr
      obtain ⟨d0, d1, d2, d3, d4⟩ := HDC14.out.xo
      go_wp2_with fail
      exact ⟨⟨k + 1, by omega, by simp, HDC15.out, HR15.out, HLO15.out⟩, by simp [intOf]; omega⟩
    · obtain rfl : n = k := by omega
      clear HLO
      obtain ⟨w16, hw16⟩ : ∃ w', wr.alloc (Obj.cells #[] 5) = w' := ⟨_, rfl⟩
      have hoe := own_empty hw16
      obtain ⟨N, hN⟩ : ∃ N, wr.heap.size = N := ⟨_, rfl⟩
      rw [hN] at hoe
      have HE16 : Hid (OwnB N w16 (.slice (some ⟨N, 0, none⟩) 0 0) [] ∧ Below N wr w16) := hoe
      have HX16 : Hid (By w16 va bs) := (HX.out.bel HDCr.out.bel).bel (by rw [hN]; exact HE16.out.2)
      have hM16 : N ≤ w16.heap.size := by have := HE16.out.2.size; omega
      have hbb : ([] : List Nat).length + L ≤ 2097152 := by simp; omega
      clear hoe
      go_wp2_with (at_builtin; refine list_appX rfl _ _ rfl N (.slice (some ⟨N, 0, none⟩) 0 0) [] bs va L cap w16 rfl HE16.out.1 rfl HX16.out HNIL.out HLX.out hbb hM16 ?_)
      intro v17 w17 ho17 hg17
      have HO17 : Hid (OwnB N w17 v17 bs) := ho17.out
      have HB17 : Hid (Below N w16 w17) := grown_below hg17.out hM16 (fun g e => by cases e; exact Nat.le_refl _)
      clear ho17 hg17 hw16 hbb
      obtain ⟨w18, hw18⟩ : ∃ w', w17.alloc (Obj.cells #[.int .u8 1, .int .u8 2, .int .u8 3] 5) = w' := ⟨_, rfl⟩
      have HT18 : Hid (By w18 (some ⟨w17.heap.size, 0, none⟩) [1, 2, 3] ∧ Below w17.heap.size w17 w18) := by_three hw18
      have HO18 : Hid (OwnB N w18 v17 bs) := HO17.out.bel HT18.out.2
      have hM18 : N ≤ w18.heap.size := by have := HB17.out.size; have := HT18.out.2.size; omega
      have hb18 : bs.length + 3 ≤ 2097152 := by rw [HLX.out]; omega
      go_wp2_with (at_builtin; refine list_appX rfl _ _ rfl N v17 bs [1, 2, 3] (some ⟨w17.heap.size, 0, none⟩) 3 3 w18 rfl HO18.out rfl HT18.out.1 (fun e => by cases e) rfl hb18 hM18 ?_)
      intro v19 w19 ho19 hg19
      obtain ⟨r2, rc2, hv19, hq1, hq2, hq3⟩ := ho19.out.some (by rw [HLR.out]; omega)
      rw [HLR.out] at hv19 hq3
      subst hv19
      have HB19 : Hid (Below N wr w19) := by
        have h1 : Below N w18 w19 := grown_below hg19.out hM18 (fun g e => (HO18.out.row.lt g e).1)
        exact ((HE16.out.2.trans HB17.out).trans (HT18.out.2.mono (by have := HB17.out.size; omega))).trans h1
      have HR19 : Hid (OwnB N w19 (.slice (some ⟨r2, 0, none⟩) (L + 3) rc2) (bs ++ [1, 2, 3])) := ho19.out
      have hB19' : Below wr.heap.size wr w19 := by rw [hN]; exact HB19.out
      have HDC19 : Hid (DC w p n bW B bT vaW cW ysW vaO cO vaT cT ysT w19) := HDCr.out.fr (S := []) (Fr.bel (Fr.refl _ _) hB19') (fun b hb => by cases hb)
      have HRr9 : Hid (OwnB (bW + 1) w19 (.slice (some ⟨r, 0, none⟩) (L + 3) rc) (bs ++ [1, 2, 3])) := HRr.out.bel hB19'
      have HBS := bsame_any (some ⟨r, 0, none⟩) rc (some ⟨r2, 0, none⟩) rc2 (bs ++ [1, 2, 3]) (L + 3) HLR.out w19 (HRr9.out.by HU8.out).1 (HR19.out.by HU8.out).1
      clear ho19 hg19 HB19 hB19' HR19 HO18 HT18 hw18 HB17 HO17 HE16 HX16 HDCr HRr
      go_wp2_with fail
      refine HBS.mono ?_
      rintro e w20 ⟨rfl, hw20⟩
      rw [hw20]
      clear hw20 w20 HBS
      go_wp2_with fail
      go_loopw [89] (fun iv wr => ∃ (k : Nat) (cs : List Nat), k ≤ L + 3 ∧ iv = .int .i64 (k : Int) ∧ cs.length = L + 3 ∧ DC w p n bW B bT vaW cW ysW vaO cO vaT cT ysT wr ∧ OwnB (bW + 1) wr (.slice (some ⟨r, 0, none⟩) (L + 3) rc) cs) (fun i _ => L + 3 - (intOf i).toNat)
      case atStart => exact ⟨0, _, by omega, rfl, HLR.out, HDC19.out, HRr9.out⟩
      case round =>
        obtain ⟨k, cs, hk2, rfl, hcl, hdc, hrm⟩ := hrel
        have HCL : Hid (cs.length = L + 3) := hcl
        have HDCs : Hid (DC w p n bW B bT vaW cW ysW vaO cO vaT cT ysT wr) := hdc
        have HRs : Hid (OwnB (bW + 1) wr (.slice (some ⟨r, 0, none⟩) (L + 3) rc) cs) := hrm
        clear hcl hdc hrm HDC19 HRr9
        by_cases hl2 : k < L + 3
        · obtain ⟨b0, b1⟩ := HRs.out.cell (i := k) (by rw [HCL.out]; exact hl2)
          have HR2 : Hid (OwnB (bW + 1) (wr.setCell ⟨r, k, none⟩ (.int .u8 238)) (.slice (some ⟨r, 0, none⟩) (L + 3) rc) (cs.set k 238)) := HRs.out.set (c := 238) hl2
          have HDC2 : Hid (DC w p n bW B bT vaW cW ysW vaO cO vaT cT ysT (wr.setCell ⟨r, k, none⟩ (.int .u8 238))) := HDCs.out.fr (S := [r]) ((Fr.refl _ wr).set _ (Or.inl (List.mem_singleton.2 rfl))) (fun b hb => by rw [List.mem_singleton] at hb; omega)
          have hkk : (k : Int) < (L : Int) + 3 := by omega
          have kk0 : (0 : Int) ≤ k := by omega
          clear HDCs HRs
          go_wp2_with fail
          exact ⟨⟨k + 1, cs.set k 238, by omega, by simp, by rw [List.length_set]; exact HCL.out, HDC2.out, HR2.out⟩, by simp [intOf]; omega⟩
        · obtain rfl : k = L + 3 := by omega
          have HPS3 := psame_any p.kind p.frm p.area p.seen vaT cT vaW cW p.xs n HN.out wr (HALL.out wr HDCs.out).2 (HALL.out wr HDCs.out).1
          unfold pkV at HPS3
          obtain ⟨c0, c1, c2, c3, c4⟩ := HDCs.out.xw
          obtain ⟨d0, d1, d2, d3, d4⟩ := HDCs.out.xt
          go_wp2_with fail
          refine HPS3.mono ?_
          rintro e w21 ⟨rfl, hb21⟩
          have HB21 : Hid (Below w.heap.size w w21) := HDCs.out.bel.trans (hb21.mono HDCs.out.bel.size)
          clear hb21 HPS3 HDCs c0 c1 c2 c3 c4 d0 d1 d2 d3 d4
          go_wp2_with fail
          go_ret
          exact ⟨rfl, HB21.out⟩
end Go.Proofs.Ytagfdmkgnedlbae.Ls
