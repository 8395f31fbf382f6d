/- LsaBack: what it answers. -/
import Derived.Test.YtagfdmkgnedlbaeLsZa
import Derived.Test.YtagfdmkgnedlbaeLsZb
namespace Go.Proofs.Ytagfdmkgnedlbae.Ls
open Go.ChangeShapes Go.WideShapes Go.ChangeAt Go.RowKit Go.Joins Go.Proofs.Ytagfdmkgnedlbae.PM Go.Proofs.Ytagfdmkgnedlbae.Ask
set_option linter.unusedVariables false

theorem enc_fits {p : Pk} {bs : List Nat} {w : World} {va : Option Addr} (h : encP p = (bs, 0)) (hx : LAll w va p.xs) : ∀ x ∈ p.xs, Fits x := by
  intro x hxm
  unfold encP at h
  split at h
  · cases h
  · split at h
    · cases h
    · rename_i hr
      have hR : rangeP p.kind p.frm p.area p.seen p.xs = true := by simpa using hr
      exact right_fits ((range_of hR).2.2.2.2 x hxm) (hx.in32 x hxm).1 (hx.in32 x hxm).2
theorem enc_hello (n : Int) (h0 : 0 ≤ n) (h1 : n ≤ 4294967295) : ∃ es, encP ⟨1, 1, 0, n, []⟩ = (es, 0) ∧ es.length = 20 := by
  have hr : rangeP 1 1 0 n [] = true := by
    unfold rangeP inB
    simp [h0, h1]
  refine ⟨encBody ⟨1, 1, 0, n, []⟩ ++ big 4 (crc 4294967295 (encBody ⟨1, 1, 0, n, []⟩)), ?_, ?_⟩
  · unfold encP
    rw [if_neg (by show ¬ isK 1 = false; decide), if_neg (by rw [hr]; decide), if_neg (by show ¬ 4096 < bytesOf 20 []; decide)]
  · rw [List.length_append, encBody_len, big_len]
    rfl
theorem enc_u8 {p : Pk} {bs : List Nat} {er : Int} (h : encP p = (bs, er)) : ∀ d ∈ bs, d < 256 := by
  unfold encP at h
  have hb : ∀ d ∈ encBody p, d < 256 := by
    intro d hd
    unfold encBody at hd
    simp only [List.mem_append, List.mem_flatMap] at hd
    rcases hd with (((((((h1 | h1) | h1) | h1) | h1) | h1) | h1) | ⟨x, -, h1⟩)
    all_goals first | exact big_u8 _ _ d h1 | exact encL_u8 x d h1
  split at h
  · cases h; intro d hd; cases hd
  · split at h
    · cases h; intro d hd; cases hd
    · split at h
      · cases h; intro d hd; cases hd
      · cases h
        intro d hd
        rcases List.mem_append.1 hd with h1 | h1
        · exact hb d h1
        · exact big_u8 _ _ d h1
set_option maxRecDepth 100000 in
set_option maxHeartbeats 16000000 in
theorem back_any (kind frm area seen : Int) (va : Option Addr) (cap : Nat) (xs : List Lsa) (L : Nat) (hL : xs.length = L) (vb : Option Addr) (capb : Nat) (bs : List Nat) (Lb : Nat) (hLb : bs.length = Lb) (hcapb : Lb ≤ capb) (w : World) (hx : LAll w va xs) (hb : By w vb bs) :
    Calls Try.prog 6 #[pkV kind frm area seen va L cap, .slice vb Lb capb] w fun e w' => e = .returned (.bool true) ∧ Below w.heap.size w w' := by
  have HX : Hid (LAll w va xs) := hx
  have HY : Hid (By w vb bs) := hb
  have HLX : Hid (xs.length = L) := hL
  have HLY : Hid (bs.length = Lb) := hLb
  obtain ⟨⟨es, er⟩, hE⟩ : ∃ y, encP ⟨kind, frm, area, seen, xs⟩ = y := ⟨_, rfl⟩
  obtain ⟨⟨q, fr⟩, hD⟩ : ∃ y, decP bs = y := ⟨_, rfl⟩
  obtain ⟨hs, hH, hHl⟩ := enc_hello 2 (by decide) (by decide)
  have HE : Hid (encP ⟨kind, frm, area, seen, xs⟩ = (es, er)) := hE
  have HD : Hid (decP bs = (q, fr)) := hD
  have HH : Hid (encP ⟨1, 1, 0, 2, []⟩ = (hs, 0)) := hH
  have HHL : Hid (hs.length = 20) := hHl
  have HENC : Hid (∀ W, Below w.heap.size w W → Calls Try.prog 18 #[pkV kind frm area seen va L cap] W (EncPost W es er)) := fun W hW => encode_any kind frm area seen va cap xs L HLX.out W (HX.out.bel hW) es er HE.out
  have HDEC : Hid (∀ W, Below w.heap.size w W → Calls Try.prog 22 #[.slice vb Lb capb] W (DecPost W q fr)) := fun W hW => decode_any vb capb bs Lb HLY.out hcapb W (HY.out.bel hW) q fr HD.out
  have HHEL : Hid (∀ W, Calls Try.prog 18 #[pkV 1 1 0 2 none 0 0] W (EncPost W hs 0)) := fun W => encode_any 1 1 0 2 none 0 [] 0 rfl W ⟨by simp, fun i hi => by cases hi⟩ hs 0 HH.out
  clear hx hb hL hLb hE hD hH hHl
  unfold pkV at HENC HHEL ⊢
  go_enter Try.func6, Try.ntmps6
  go_wp2_with fail
  obtain ⟨w0, hw0⟩ : ∃ w0, w.alloc (Obj.cells #[.int .i64 kind, .int .i64 frm, .int .i64 area, .int .i64 seen, .slice va L cap] 36) = w0 := ⟨_, rfl⟩
  obtain ⟨hz, -, hbz, hszz⟩ := pbox_new hw0
  obtain ⟨s, hs0⟩ : ∃ s, w.heap.size = s := ⟨_, rfl⟩
  rw [hs0] at hz hszz
  rw [hw0, hs0]
  have HB0 : Hid (Below w.heap.size w w0) := hbz
  have HP0 : Hid (PBox s kind frm area seen (.slice va L cap) w0) := hz
  clear hw0 hz hbz
  refine (HENC.out w0 HB0.out).mono ?_
  rintro e w1 ⟨v1, rfl, hown, hb1⟩
  obtain ⟨ve, le, ce, rfl⟩ := ownB_slice hown
  have HP1 : Hid (PBox s kind frm area seen (.slice va L cap) w1) := HP0.out.blk (hb1.block s (by omega))
  have HB1 : Hid (Below w.heap.size w w1) := HB0.out.trans (hb1.mono HB0.out.size)
  have HO1 : Hid (OwnB w0.heap.size w1 (.slice ve le ce) es) := hown
  have hs1 : s < w1.heap.size := by have := hb1.size; omega
  clear hown hb1 HP0 HB0
  by_cases her : er = 0
  · subst her
    obtain ⟨hdec, hlen, hl40⟩ := dec_enc HE.out (enc_fits HE.out HX.out)
    have hby := HO1.out.by (enc_u8 HE.out)
    have HDQ := decode_any ve ce es le hby.2.1 hby.2.2.1 w1 hby.1 _ 0 hdec
    have hle : le ≤ 4096 := by rw [← hby.2.1]; exact hl40
    clear hby hdec hlen hl40
    go_wp2_with fail
    refine HDQ.mono ?_
    rintro e w2 ⟨vq, cq, ys, rfl, hmap, hdo, hb2⟩
    have hal := hdo.all (by rw [← hmap, List.length_map])
    rw [hmap] at hal
    have HAL : Hid (LAll w2 vq xs) := hal
    have HP2 : Hid (PBox s kind frm area seen (.slice va L cap) w2) := HP1.out.blk (hb2.block s (by omega))
    have HB2 : Hid (Below w.heap.size w w2) := HB1.out.trans (hb2.mono HB1.out.size)
    have hs2 : s < w2.heap.size := by have := hb2.size; omega
    clear hmap hdo hb2 hal HDQ HP1 HB1
    unfold pkV
    dsimp only
    rw [HLX.out]
    go_upto_region 4 with fail
    obtain ⟨w3, hw3⟩ : ∃ w3, w2.alloc (Obj.cells #[.int .i64 kind, .int .i64 frm, .int .i64 area, .int .i64 seen, .slice vq L cq] 36) = w3 := ⟨_, rfl⟩
    obtain ⟨hz, -, hbz, hsz3⟩ := pbox_new hw3
    obtain ⟨s7, hs7⟩ : ∃ s, w2.heap.size = s := ⟨_, rfl⟩
    rw [hs7] at hz
    rw [hw3, hs7]
    have HPS := psame_any kind frm area seen va cap vq cq xs L HLX.out w3 (HX.out.bel (HB2.out.trans (hbz.mono HB2.out.size))) (HAL.out.bel hbz)
    unfold pkV at HPS
    obtain ⟨c0, c1, c2, c3, c4⟩ := HP2.out.blk (hbz.block s hs2)
    obtain ⟨d0, d1, d2, d3, d4⟩ := hz
    have HB3 : Hid (Below w.heap.size w w3) := HB2.out.trans (hbz.mono HB2.out.size)
    have hle' : ¬ (4096 : Int) < le := by omega
    clear hw3 hbz HAL HB2 HP2
    go_wp2_with fail
    refine HPS.mono ?_
    rintro e w4 ⟨rfl, hb4⟩
    have HB4 : Hid (Below w.heap.size w w4) := HB3.out.trans (hb4.mono HB3.out.size)
    clear c0 c1 c2 c3 c4 d0 d1 d2 d3 d4 hb4 HPS HB3
    go_wp2_with fail
    have HBw4 : Hid (Below w.heap.size w w4) := HB4.out
    refine (HDEC.out w4 HBw4.out).mono ?_
    rintro e x5 ⟨vq2, cq2, ys2, rfl, hmap2, hdo2, hb5⟩
    have hal2 := hdo2.all (by rw [← hmap2, List.length_map])
    rw [hmap2] at hal2
    have HAL2 : Hid (LAll x5 vq2 q.xs) := hal2
    have HBx5 : Hid (Below w.heap.size w x5) := HBw4.out.trans (hb5.mono HBw4.out.size)
    obtain ⟨nq, hnq⟩ : ∃ n, q.xs.length = n := ⟨_, rfl⟩
    have HNQ : Hid (q.xs.length = nq) := hnq
    rw [hnq]
    clear hmap2 hdo2 hb5 hal2 hnq
    unfold pkV
    by_cases hfr : fr = 0
    · subst hfr
      have henc := enc_dec HY.out.u8 HD.out
      have HEN : Hid (∀ W, Below x5.heap.size x5 W → Calls Try.prog 18 #[pkV q.kind q.frm q.area q.seen vq2 nq cq2] W (EncPost W bs 0)) := fun W hW => encode_any q.kind q.frm q.area q.seen vq2 cq2 q.xs nq HNQ.out W (HAL2.out.bel hW) bs 0 henc
      unfold pkV at HEN
      clear henc
      go_wp2_with fail
      refine (HEN.out _ ((Below.refl _ x5).alloc (Nat.le_refl _) _)).mono ?_
      rintro e x7 ⟨v7, rfl, hown, hb7⟩
      obtain ⟨v7a, l7, c7, rfl⟩ := ownB_slice hown
      have hb57 : Below x5.heap.size x5 x7 := ((Below.refl _ x5).alloc (Nat.le_refl _) _).trans (hb7.mono (by simp))
      have HBx7 : Hid (Below w.heap.size w x7) := HBx5.out.trans (hb57.mono HBx5.out.size)
      have hby7 := hown.by HY.out.u8
      have h7l : l7 = Lb := by rw [← hby7.2.1]; exact HLY.out
      subst h7l
      have HBS := bsame_any v7a c7 vb capb bs l7 HLY.out x7 hby7.1 (HY.out.bel HBx7.out)
      clear hown hb7 hb57 hby7 HEN
      go_wp2_with fail
      refine HBS.mono ?_
      rintro e x6 ⟨rfl, hx6⟩
      rw [hx6]
      clear hx6 x6 HBS
      go_wp2_with fail
      refine (HHEL.out x7).mono ?_
      rintro e x8 ⟨v8, rfl, hown, hb8⟩
      obtain ⟨vh, lh, ch, rfl⟩ := ownB_slice hown
      have hh := (hown.by (enc_u8 HH.out)).2.1
      rw [HHL.out] at hh
      subst hh
      have HBF : Hid (Below w.heap.size w x8) := HBx7.out.trans (hb8.mono HBx7.out.size)
      clear hown hb8
      go_wp2_with fail
      go_ret
      exact ⟨rfl, HBF.out⟩
    · have hfr2 : (fr == 0) = false := by simpa using hfr
      go_wp2_with fail
      have HBa : Hid (Below w.heap.size w (x5.alloc (Obj.cells #[.int .i64 q.kind, .int .i64 q.frm, .int .i64 q.area, .int .i64 q.seen, .slice vq2 nq cq2] 36))) := HBx5.out.alloc HBx5.out.size _
      refine (HHEL.out (x5.alloc (Obj.cells #[.int .i64 q.kind, .int .i64 q.frm, .int .i64 q.area, .int .i64 q.seen, .slice vq2 nq cq2] 36))).mono ?_
      rintro e x9 ⟨v9, rfl, hown, hb9⟩
      obtain ⟨vh, lh, ch, rfl⟩ := ownB_slice hown
      have hh := (hown.by (enc_u8 HH.out)).2.1
      rw [HHL.out] at hh
      subst hh
      have HBF : Hid (Below w.heap.size w x9) := HBa.out.trans (hb9.mono HBa.out.size)
      clear hown hb9
      go_wp2_with fail
      go_ret
      exact ⟨rfl, HBF.out⟩
  · have her2 : (er == 0) = false := by simpa using her
    go_wp2_with fail
    have HBw1 : Hid (Below w.heap.size w w1) := HB1.out
    refine (HDEC.out w1 HBw1.out).mono ?_
    rintro e x5 ⟨vq2, cq2, ys2, rfl, hmap2, hdo2, hb5⟩
    have hal2 := hdo2.all (by rw [← hmap2, List.length_map])
    rw [hmap2] at hal2
    have HAL2 : Hid (LAll x5 vq2 q.xs) := hal2
    have HBx5 : Hid (Below w.heap.size w x5) := HBw1.out.trans (hb5.mono HBw1.out.size)
    obtain ⟨nq, hnq⟩ : ∃ n, q.xs.length = n := ⟨_, rfl⟩
    have HNQ : Hid (q.xs.length = nq) := hnq
    rw [hnq]
    clear hmap2 hdo2 hb5 hal2 hnq
    unfold pkV
    by_cases hfr : fr = 0
    · subst hfr
      have henc := enc_dec HY.out.u8 HD.out
      have HEN : Hid (∀ W, Below x5.heap.size x5 W → Calls Try.prog 18 #[pkV q.kind q.frm q.area q.seen vq2 nq cq2] W (EncPost W bs 0)) := fun W hW => encode_any q.kind q.frm q.area q.seen vq2 cq2 q.xs nq HNQ.out W (HAL2.out.bel hW) bs 0 henc
      unfold pkV at HEN
      clear henc
      go_wp2_with fail
      refine (HEN.out _ ((Below.refl _ x5).alloc (Nat.le_refl _) _)).mono ?_
      rintro e x7 ⟨v7, rfl, hown, hb7⟩
      obtain ⟨v7a, l7, c7, rfl⟩ := ownB_slice hown
      have hb57 : Below x5.heap.size x5 x7 := ((Below.refl _ x5).alloc (Nat.le_refl _) _).trans (hb7.mono (by simp))
      have HBx7 : Hid (Below w.heap.size w x7) := HBx5.out.trans (hb57.mono HBx5.out.size)
      have hby7 := hown.by HY.out.u8
      have h7l : l7 = Lb := by rw [← hby7.2.1]; exact HLY.out
      subst h7l
      have HBS := bsame_any v7a c7 vb capb bs l7 HLY.out x7 hby7.1 (HY.out.bel HBx7.out)
      clear hown hb7 hb57 hby7 HEN
      go_wp2_with fail
      refine HBS.mono ?_
      rintro e x6 ⟨rfl, hx6⟩
      rw [hx6]
      clear hx6 x6 HBS
      go_wp2_with fail
      refine (HHEL.out x7).mono ?_
      rintro e x8 ⟨v8, rfl, hown, hb8⟩
      obtain ⟨vh, lh, ch, rfl⟩ := ownB_slice hown
      have hh := (hown.by (enc_u8 HH.out)).2.1
      rw [HHL.out] at hh
      subst hh
      have HBF : Hid (Below w.heap.size w x8) := HBx7.out.trans (hb8.mono HBx7.out.size)
      clear hown hb8
      go_wp2_with fail
      go_ret
      exact ⟨rfl, HBF.out⟩
    · have hfr2 : (fr == 0) = false := by simpa using hfr
      go_wp2_with fail
      have HBa : Hid (Below w.heap.size w (x5.alloc (Obj.cells #[.int .i64 q.kind, .int .i64 q.frm, .int .i64 q.area, .int .i64 q.seen, .slice vq2 nq cq2] 36))) := HBx5.out.alloc HBx5.out.size _
      refine (HHEL.out (x5.alloc (Obj.cells #[.int .i64 q.kind, .int .i64 q.frm, .int .i64 q.area, .int .i64 q.seen, .slice vq2 nq cq2] 36))).mono ?_
      rintro e x9 ⟨v9, rfl, hown, hb9⟩
      obtain ⟨vh, lh, ch, rfl⟩ := ownB_slice hown
      have hh := (hown.by (enc_u8 HH.out)).2.1
      rw [HHL.out] at hh
      subst hh
      have HBF : Hid (Below w.heap.size w x9) := HBa.out.trans (hb9.mono HBa.out.size)
      clear hown hb9
      go_wp2_with fail
      go_ret
      exact ⟨rfl, HBF.out⟩
end Go.Proofs.Ytagfdmkgnedlbae.Ls
