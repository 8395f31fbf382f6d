/- LsaCodes: what it answers. -/
import Derived.Test.YtagfdmkgnedlbaeLtN
import Derived.Test.YtagfdmkgnedlbaeLsZc
namespace Go.Proofs.Ytagfdmkgnedlbae.Ls
open Go.ChangeShapes Go.WideShapes Go.ChangeAt Go.RowKit Go.Joins Go.Proofs.Ytagfdmkgnedlbae.PM Go.Proofs.Ytagfdmkgnedlbae.Ask
set_option linter.unusedVariables false

theorem enc_few {p : Pk} {bs : List Nat} {er : Int} {w : World} {va : Option Addr} (h : encP p = (bs, er)) (hx : LAll w va p.xs) : bs.length ≤ 4096 := by
  by_cases e : er = 0
  · subst e
    exact (dec_enc h (enc_fits h hx)).2.2
  · unfold encP at h
    split at h
    · cases h; decide
    · split at h
      · cases h; decide
      · split at h
        · cases h; decide
        · cases h; exact absurd rfl e
theorem ownB_form {N : Nat} {w : World} {v : Value} {bs : List Nat} (h : OwnB N w v bs) : ∃ a c, v = .slice a bs.length c ∧ (a = none → bs.length = 0 ∧ c = 0) ∧ ∀ ad, a = some ad → ∃ g, ad = ⟨g, 0, none⟩ := by
  rcases h.row.2 with ⟨h1, h2⟩ | ⟨g, c, cur, h1, _⟩
  · exact ⟨none, 0, by rw [h1, h2], fun _ => ⟨h2, rfl⟩, fun ad e => by cases e⟩
  · exact ⟨some ⟨g, 0, none⟩, c, h1, (fun e => by cases e), fun ad e => by cases e; exact ⟨g, rfl⟩⟩
set_option maxRecDepth 100000 in
set_option maxHeartbeats 16000000 in
theorem codes_any (kind frm area seen : Int) (va : Option Addr) (cap : Nat) (xs : List Lsa) (n : Nat) (hn : xs.length = n) (hbn : n ≤ 1048576) (vb : Option Addr) (cb : Nat) (bs : List Nat) (lb : Nat) (hbl : bs.length = lb) (hbc : lb ≤ cb) (hbb : lb ≤ 1048576) (hnb : vb = none → lb = 0 ∧ cb = 0) (w : World) (hx : LAll w va xs) (hnil : NilOk w va xs) (hbig : ∀ x ∈ xs, x.links.length ≤ 1048576 ∧ x.stubs.length ≤ 1048576) (h64 : ∀ x ∈ xs, ∀ d ∈ x.links, In64 d.2.1) (hy : By w vb bs) :
    Calls Try.prog 5 #[pkV kind frm area seen va n cap, .slice vb lb cb] w fun e w' => e = .returned (.bool true) ∧ Below w.heap.size w w' := by
  obtain ⟨⟨es, er⟩, hE⟩ : ∃ y, encP ⟨kind, frm, area, seen, xs⟩ = y := ⟨_, rfl⟩
  have HE : Hid (encP ⟨kind, frm, area, seen, xs⟩ = (es, er)) := hE
  obtain ⟨L, hL⟩ : ∃ L, es.length = L := ⟨_, rfl⟩
  have HL : Hid (es.length = L) := hL
  have hL4 : L ≤ 4096 := by rw [← hL]; exact enc_few hE hx
  have HU8 : Hid (∀ d ∈ es, d < 256) := enc_u8 hE
  have HX : Hid (LAll w va xs) := hx
  have HNIL : Hid (NilOk w va xs) := hnil
  have HBIG : Hid (∀ x ∈ xs, x.links.length ≤ 1048576 ∧ x.stubs.length ≤ 1048576) := hbig
  have H64 : Hid (∀ x ∈ xs, ∀ d ∈ x.links, In64 d.2.1) := h64
  have HY : Hid (By w vb bs) := hy
  have HN : Hid (xs.length = n) := hn
  have HBL : Hid (bs.length = lb) := hbl
  have HNB : Hid (vb = none → lb = 0 ∧ cb = 0) := hnb
  clear hE hL hx hnil hbig h64 hy hn hbl hnb
  unfold pkV
  go_enter Try.func5, Try.ntmps5
  go_upto_region 1 with fail
  obtain ⟨w1, hw1⟩ : ∃ w', w.alloc (Obj.cells #[.int .i64 kind, .int .i64 frm, .int .i64 area, .int .i64 seen, .slice va n cap] 36) = w' := ⟨_, rfl⟩
  obtain ⟨s, hs⟩ : ∃ b, w.heap.size = b := ⟨_, rfl⟩
  have HW1 : Hid (PBox s kind frm area seen (.slice va n cap) w1 ∧ Below w.heap.size w w1 ∧ w1.heap.size = s + 1) := by
    obtain ⟨a1, a2, a3, a4⟩ := pbox_new hw1
    rw [hs] at a1 a4
    exact ⟨a1, a3, a4⟩
  have HB1 : Hid (Below w.heap.size w w1) := HW1.out.2.1
  have hs1 : w1.heap.size = s + 1 := HW1.out.2.2
  have HPC := pcopy_any kind frm area seen va cap xs n HN.out hbn w1 (HX.out.bel HB1.out) (fun i hi b o la m lc hva hcl hnone => by
    obtain ⟨b', o', la', lc', sa', sc', e, hlt, hat, hok⟩ := HX.out.cells i hi
    rw [hva] at e
    cases e
    have hb := HB1.out.block b hlt
    exact HNIL.out i hi b o la m lc hva (hcl.imp (fun e => (World.cell?_of_block (w := w) hb).symm.trans e) (fun e => (World.cell?_of_block (w := w) hb).symm.trans e)) hnone) HBIG.out
  unfold pkV at HPC
  obtain ⟨c0, c1, c2, c3, c4⟩ := HW1.out.1
  go_wp2_with fail
  refine HPC.mono ?_
  rintro e w2 ⟨vaM, cM, rfl, hal, hb2⟩
  have HM2 : Hid (LAll w2 vaM xs ∧ Below w1.heap.size w1 w2) := ⟨hal, hb2⟩
  clear hal hb2 HPC c0 c1 c2 c3 c4 hw1
  obtain ⟨w3, hw3⟩ : ∃ w', w2.alloc (Obj.cells #[.int .i64 kind, .int .i64 frm, .int .i64 area, .int .i64 seen, .slice vaM n cM] 36) = w' := ⟨_, rfl⟩
  obtain ⟨bM, hbM⟩ : ∃ b, w2.heap.size = b := ⟨_, rfl⟩
  have HW3 : Hid (PBox bM kind frm area seen (.slice vaM n cM) w3 ∧ Below w2.heap.size w2 w3 ∧ w3.heap.size = bM + 1) := by
    obtain ⟨a1, a2, a3, a4⟩ := pbox_new hw3
    rw [hbM] at a1 a4
    exact ⟨a1, a3, a4⟩
  have hs3 : w3.heap.size = bM + 1 := HW3.out.2.2
  have hsM : s + 1 ≤ bM := by have := HM2.out.2.size; omega
  have HB3 : Hid (Below w1.heap.size w1 w3) := HM2.out.2.trans (HW3.out.2.1.mono HM2.out.2.size)
  have HBA : Hid (Below w.heap.size w w3) := HB1.out.trans (HB3.out.mono (by omega))
  have HP3 : Hid (PBox s kind frm area seen (.slice va n cap) w3) := HW1.out.1.blk (HB3.out.block s (by omega))
  have HM3 : Hid (LAll w3 vaM xs) := HM2.out.1.bel HW3.out.2.1
  have HRE := rencode_any kind frm area seen va cap xs n HN.out w3 (HX.out.bel HBA.out) H64.out es er HE.out
  unfold pkV at HRE
  obtain ⟨c0, c1, c2, c3, c4⟩ := HP3.out
  go_wp2_with fail
  refine HRE.mono ?_
  rintro e w4 ⟨vW, rfl, how, hb4⟩
  obtain ⟨aW, cW, hvW, nlW, -⟩ := ownB_form how
  rw [HL.out] at hvW nlW
  subst hvW
  have HOW : Hid (OwnB w3.heap.size w4 (.slice aW L cW) es ∧ Below w3.heap.size w3 w4) := ⟨how, hb4⟩
  clear how hb4 HRE c0 c1 c2 c3 c4 hw3
  have hs4 : bM + 1 ≤ w4.heap.size := by have := HOW.out.2.size; omega
  have HM4 : Hid (LAll w4 vaM xs) := HM3.out.bel HOW.out.2
  have HQ4 : Hid (PBox bM kind frm area seen (.slice vaM n cM) w4) := HW3.out.1.blk (HOW.out.2.block bM (by omega))
  have HP4 : Hid (PBox s kind frm area seen (.slice va n cap) w4) := HP3.out.blk (HOW.out.2.block s (by omega))
  have HE1 := encode_any kind frm area seen vaM cM xs n HN.out w4 HM4.out es er HE.out
  unfold pkV at HE1
  obtain ⟨c0, c1, c2, c3, c4⟩ := HQ4.out
  go_wp2_with fail
  refine HE1.mono ?_
  rintro e w5 ⟨v1, rfl, ho1, hb5⟩
  obtain ⟨a1, k1, hv1, nl1, sm1⟩ := ownB_form ho1
  rw [HL.out] at hv1 nl1
  subst hv1
  have HO1 : Hid (OwnB w4.heap.size w5 (.slice a1 L k1) es ∧ Below w4.heap.size w4 w5) := ⟨ho1, hb5⟩
  have HSM : Hid (∀ ad, a1 = some ad → ∃ g, ad = ⟨g, 0, none⟩) := sm1
  clear ho1 hb5 HE1 c0 c1 c2 c3 c4 nl1 sm1
  have hs5 : w4.heap.size ≤ w5.heap.size := HO1.out.2.size
  have HM5 : Hid (LAll w5 vaM xs) := HM4.out.bel HO1.out.2
  have HQ5 : Hid (PBox bM kind frm area seen (.slice vaM n cM) w5) := HQ4.out.blk (HO1.out.2.block bM (by omega))
  have HP5 : Hid (PBox s kind frm area seen (.slice va n cap) w5) := HP4.out.blk (HO1.out.2.block s (by omega))
  have HE2 := encode_any kind frm area seen vaM cM xs n HN.out w5 HM5.out es er HE.out
  unfold pkV at HE2
  obtain ⟨c0, c1, c2, c3, c4⟩ := HQ5.out
  go_wp2_with fail
  refine HE2.mono ?_
  rintro e w6 ⟨v2, rfl, ho2, hb6⟩
  obtain ⟨a2, k2, hv2, nl2, -⟩ := ownB_form ho2
  rw [HL.out] at hv2 nl2
  subst hv2
  have HO2 : Hid (OwnB w5.heap.size w6 (.slice a2 L k2) es ∧ Below w5.heap.size w5 w6) := ⟨ho2, hb6⟩
  have HNL2 : Hid (a2 = none → L = 0 ∧ k2 = 0) := nl2
  clear ho2 hb6 HE2 c0 c1 c2 c3 c4 nl2
  have hs6 : w5.heap.size ≤ w6.heap.size := HO2.out.2.size
  have HM6 : Hid (LAll w6 vaM xs) := HM5.out.bel HO2.out.2
  have HQ6 : Hid (PBox bM kind frm area seen (.slice vaM n cM) w6) := HQ5.out.blk (HO2.out.2.block bM (by omega))
  have HP6 : Hid (PBox s kind frm area seen (.slice va n cap) w6) := HP5.out.blk (HO2.out.2.block s (by omega))
  have HOW6 : Hid (OwnB w3.heap.size w6 (.slice aW L cW) es) := (HOW.out.1.bel HO1.out.2).bel HO2.out.2
  have HO16 : Hid (OwnB w4.heap.size w6 (.slice a1 L k1) es) := HO1.out.1.bel HO2.out.2
  have HO26 : Hid (OwnB w5.heap.size w6 (.slice a2 L k2) es) := HO2.out.1
  have HB6 : Hid (Below w.heap.size w w6) := by
    have h1 : Below w3.heap.size w3 w6 := (HOW.out.2.trans (HO1.out.2.mono HOW.out.2.size)).trans (HO2.out.2.mono (by have := HOW.out.2.size; omega))
    exact HBA.out.trans (h1.mono HBA.out.size)
  have HX6 : Hid (LAll w6 va xs) := HX.out.bel HB6.out
  have HWL : Hid (∀ g, (Value.slice aW L cW).ownBlock = some g → w3.heap.size ≤ g ∧ g < w4.heap.size) := HOW.out.1.row.lt
  have H1L : Hid (∀ g, (Value.slice a1 L k1).ownBlock = some g → w4.heap.size ≤ g ∧ g < w5.heap.size) := HO1.out.1.row.lt
  have H2L : Hid (∀ g, (Value.slice a2 L k2).ownBlock = some g → w5.heap.size ≤ g ∧ g < w6.heap.size) := HO2.out.1.row.lt
  have hsw : w.heap.size ≤ w4.heap.size := by have := HBA.out.size; have := HOW.out.2.size; omega
  clear HM5 HM4 HM3 HQ5 HQ4 HP5 HP4 HP3 HOW HO1 HO2 HW3 HW1 HM2
  have HS1 := bsame_any a1 k1 aW cW es L HL.out w6 (HO16.out.by HU8.out).1 (HOW6.out.by HU8.out).1
  have HS2 := bsame_any a2 k2 aW cW es L HL.out w6 (HO26.out.by HU8.out).1 (HOW6.out.by HU8.out).1
  have HPS := psame_any kind frm area seen vaM cM va cap xs n HN.out w6 HM6.out HX6.out
  unfold pkV at HPS
  obtain ⟨c0, c1, c2, c3, c4⟩ := HQ6.out
  obtain ⟨d0, d1, d2, d3, d4⟩ := HP6.out
  go_wp2_with fail
  refine HS1.mono ?_
  rintro e w7 ⟨rfl, hw7⟩
  rw [hw7]
  clear hw7 w7
  go_wp2_with fail
  refine HS2.mono ?_
  rintro e w7 ⟨rfl, hw7⟩
  rw [hw7]
  clear hw7 w7
  go_wp2_with fail
  refine HPS.mono ?_
  rintro e w7 ⟨rfl, hb7⟩
  have HOW7 : Hid (OwnB w3.heap.size w7 (.slice aW L cW) es) := HOW6.out.bel hb7
  have HO17 : Hid (OwnB w4.heap.size w7 (.slice a1 L k1) es) := HO16.out.bel hb7
  have HO27 : Hid (OwnB w5.heap.size w7 (.slice a2 L k2) es) := HO26.out.bel hb7
  have HB7 : Hid (Below w.heap.size w w7) := HB6.out.trans (hb7.mono HB6.out.size)
  clear hb7 HPS HS1 HS2 HOW6 HO16 HO26 HX6 HM6 HQ6 HP6 c0 c1 c2 c3 c4 d0 d1 d2 d3 d4
  go_wp2_with fail
  go_loopw [53] (fun iv wr => ∃ (k : Nat) (cs : List Nat), k ≤ L ∧ iv = .int .i64 (k : Int) ∧ cs.length = L ∧ OwnB w4.heap.size wr (.slice a1 L k1) cs ∧ OwnB w3.heap.size wr (.slice aW L cW) es ∧ OwnB w5.heap.size wr (.slice a2 L k2) es ∧ Below w.heap.size w wr) (fun i _ => L - (intOf i).toNat)
  case atStart => exact ⟨0, es, by omega, rfl, HL.out, HO17.out, HOW7.out, HO27.out, HB7.out⟩
  case round =>
    obtain ⟨k, cs, hk, rfl, hcl, h1, hW, h2, hB⟩ := hrel
    have HCL : Hid (cs.length = L) := hcl
    have HR1 : Hid (OwnB w4.heap.size wr (.slice a1 L k1) cs) := h1
    have HRW : Hid (OwnB w3.heap.size wr (.slice aW L cW) es) := hW
    have HR2 : Hid (OwnB w5.heap.size wr (.slice a2 L k2) es) := h2
    have HRB : Hid (Below w.heap.size w wr) := hB
    clear hcl h1 hW h2 hB HO17 HOW7 HO27 HB7
    by_cases hlt : k < L
    · obtain ⟨g, c, hv, hg1, hg2, hg3⟩ := HR1.out.some (by rw [HCL.out]; omega)
      rw [HCL.out] at hv
      rw [hv] at HR1 H1L ⊢
      have hgl := H1L.out g rfl
      obtain ⟨b0, b1⟩ := HR1.out.cell (i := k) (by rw [HCL.out]; exact hlt)
      have HN1 : Hid (OwnB w4.heap.size (wr.setCell ⟨g, k, none⟩ (.int .u8 7)) (.slice (some ⟨g, 0, none⟩) L c) (cs.set k 7)) := HR1.out.set (c := 7) hlt
      have hsb : ∀ b, ¬ b = g → (wr.setCell ⟨g, k, none⟩ (.int .u8 7)).heap[b]? = wr.heap[b]? := fun b hb => Below.heap_setCell _ _ _ _ (by show b ≠ g; exact hb)
      have HNW : Hid (OwnB w3.heap.size (wr.setCell ⟨g, k, none⟩ (.int .u8 7)) (.slice aW L cW) es) := HRW.out.blk (fun b e => hsb b (fun e2 => by have := HWL.out b e; omega))
      have HN2 : Hid (OwnB w5.heap.size (wr.setCell ⟨g, k, none⟩ (.int .u8 7)) (.slice a2 L k2) es) := HR2.out.blk (fun b e => hsb b (fun e2 => by have := H2L.out b e; omega))
      have HNBL : Hid (Below w.heap.size w (wr.setCell ⟨g, k, none⟩ (.int .u8 7))) := HRB.out.setCell (p := ⟨g, k, none⟩) (by show _ ≤ g; omega) _
      have hkk : (k : Int) < L := by omega
      have kk0 : (0 : Int) ≤ k := by omega
      clear hsb HR1 HRW HR2 HRB hv
      go_wp2_with fail
      exact ⟨⟨k + 1, cs.set k 7, by omega, by simp, by rw [List.length_set]; exact HCL.out, HN1.out, HNW.out, HN2.out, HNBL.out⟩, by simp [intOf]; omega⟩
    · obtain rfl : L = k := by omega
      have HS3 := bsame_any a2 k2 aW cW es L HL.out wr (HR2.out.by HU8.out).1 (HRW.out.by HU8.out).1
      go_wp2_with fail
      refine HS3.mono ?_
      rintro e w8 ⟨rfl, hw8⟩
      rw [hw8]
      clear hw8 w8 HS3
      go_wp2_with fail
      refine (decodes_any vb cb bs lb HBL.out hbc hbb HNB.out wr (HY.out.bel HRB.out)).mono ?_
      rintro e w9 ⟨rfl, hb9⟩
      have HB9 : Hid (Below w.heap.size w w9) := HRB.out.trans (hb9.mono HRB.out.size)
      have hby2 := HR2.out.by HU8.out
      have HD2 := decodes_any a2 k2 es L HL.out hby2.2.2.1 (by omega) HNL2.out w9 (hby2.1.bel hb9)
      clear hb9 hby2
      go_wp2_with fail
      refine HD2.mono ?_
      rintro e w10 ⟨rfl, hb10⟩
      have HB10 : Hid (Below w.heap.size w w10) := HB9.out.trans (hb10.mono HB9.out.size)
      clear hb10 HD2
      go_wp2_with fail
      go_ret
      exact ⟨rfl, HB10.out⟩
end Go.Proofs.Ytagfdmkgnedlbae.Ls
