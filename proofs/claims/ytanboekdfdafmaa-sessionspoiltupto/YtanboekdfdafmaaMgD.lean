/- A stream: whether a message is whole. Lists of messages; what one piece of a stream leaves, in plain words. -/
import Derived.Test.YtanboekdfdafmaaMgC
namespace Go.Proofs.Ytanboekdfdafmaa.Pv
open Go.ChangeShapes Go.WideShapes Go.ChangeAt Go.RowKit Go.Joins Go.Proofs.Ytanboekdfdafmaa.PM Go.Proofs.Ytanboekdfdafmaa.Ask Go.Proofs.Ytanboekdfdafmaa.Ge
set_option linter.unusedVariables false

set_option maxRecDepth 100000 in
set_option maxHeartbeats 16000000 in
theorem message_any (N : Nat) (b : Nat) (a : Option Addr) (c : Nat) (y : List Nat) (f : Int) (w : World) (h : Stm N w b a c y f) (hs : 6 ≤ y.length → bgE y = 0 → y.length ≤ szOf y) (hsm : y.length ≤ 1048576) :
    Calls Try.prog 38 #[.pointer (some ⟨b, 0, none⟩)] w (MgPost N w b a y) := by
  have H : Hid (Stm N w b a c y f) := h
  obtain ⟨n, hn⟩ : ∃ n, y.length = n := ⟨_, rfl⟩
  have HN : Hid (y.length = n) := hn
  rw [hn] at hs hsm
  have HS : Hid (6 ≤ n → bgE y = 0 → n ≤ szOf y) := hs
  obtain ⟨g, hg⟩ : ∃ g, bgE y = g := ⟨_, rfl⟩
  have HG : Hid (bgE y = g) := hg
  have hblt := h.hl
  clear h hn hs hg
  go_enter Try.func38, Try.ntmps38
  go_upto_region 1 with fail
  obtain ⟨w0, hw0⟩ : ∃ w0, w.alloc (Obj.cells #[.int .i64 0, .int .i64 0, .int .i64 0, .int .i64 0, .int .i64 0, .slice none 0 0, .slice none 0 0, .int .u32 0, .int .i64 0, .slice none 0 0, .int .i64 0, .int .i64 0, .int .i64 0, .int .u32 0, .slice none 0 0, .slice none 0 0, .int .i64 0] 54) = w0 := ⟨_, rfl⟩
  obtain ⟨bd, hbd⟩ : ∃ k, w.heap.size = k := ⟨_, rfl⟩
  obtain ⟨hm0, hb0⟩ := mb_zero hbd hw0
  rw [hw0, hbd]
  have HM0 : Hid (MB bd ms0 sZ w0) := hm0
  have HB0 : Hid (Below w.heap.size w w0) := hb0
  have hbdw : w.heap.size ≤ bd := by omega
  have HS0 : Hid (Stm N w0 b a c y f) := H.out.bel hb0
  have hbne : ¬ b = bd := by omega
  have hbne2 : ¬ bd = b := by omega
  clear hw0 hb0 hbd hm0
  have c0 := HS0.out.c0
  have c1 := HS0.out.c1
  have f0 := HS0.out.f0 0
  have f1 := HS0.out.f0 1
  rw [HN.out] at c0
  have hcap := own_cap HS0.out.own
  rw [HN.out] at hcap
  have HBG := begin_any a c y n HN.out hcap w0 HS0.out.own.lst.1 HS0.out.u8
  rw [HG.out] at HBG
  go_wp2_with fail
  refine HBG.mono ?_
  rintro e w5 ⟨rfl, hw5⟩
  rw [hw5]
  clear hw5 w5 HBG
  obtain ⟨w1, hw1⟩ : ∃ w1, w0.setCell ⟨b, 1, none⟩ (.int .i64 g) = w1 := ⟨_, rfl⟩
  have HS1 : Hid (Stm N w1 b a c y g) := by rw [← hw1]; exact HS0.out.fault g
  have hk1 : Kr w0 b w1 := by rw [← hw1]; exact Kr.set _ _ _ _
  have HM1 : Hid (MB bd ms0 sZ w1) := HM0.out.blk (hk1.block bd HM0.out.lt hbne2)
  have HK1 : Hid (Kr w b w1) := ((Kr.refl w b).bel HB0.out).trans hk1
  have HW1 : Hid (w0.setCell ⟨b, 1, none⟩ (.int .i64 g) = w1) := hw1
  clear hw1 hk1 HM0
  by_cases hg0 : g = 0
  · subst hg0
    obtain ⟨k, hk⟩ : ∃ k, misN y = k := ⟨_, rfl⟩
    have HKM : Hid (misN y = k) := hk
    go_upto_region 2 with fail
    rw [HW1.out]
    clear HW1 c0 c1 f0 f1
    have c0 := HS1.out.c0
    have c1 := HS1.out.c1
    rw [HN.out] at c0
    have HMI := missing_any N b a c y 0 w1 HS1.out (by rw [HN.out]; exact fun h6 => HS.out h6 HG.out) (by rw [HN.out]; exact hsm) k hk
    clear hk
    go_wp2_with fail
    refine HMI.mono ?_
    rintro e w2 ⟨rfl, hb2⟩
    have HS2 : Hid (Stm N w2 b a c y 0) := HS1.out.bel hb2
    have HM2 : Hid (MB bd ms0 sZ w2) := HM1.out.blk (hb2.block bd HM1.out.lt)
    have HK2 : Hid (Kr w b w2) := HK1.out.bel hb2
    have hbs2 : w.heap.size ≤ w2.heap.size := HK2.out.str.size
    clear hb2 HMI HS1 HM1 HK1 c0 c1
    have c0 := HS2.out.c0
    have c1 := HS2.out.c1
    have f0 := HS2.out.f0 0
    have f1 := HS2.out.f0 1
    rw [HN.out] at c0
    have hsr : ∀ g, ob a = some g → g < w.heap.size := fun g e => (own_obr H.out.own g e).2
    have HSR : Hid (∀ g, ob a = some g → g < w.heap.size) := hsr
    clear hsr
    by_cases hk0 : k = 0
    · subst hk0
      have HWH : Hid (6 ≤ y.length ∧ szOf y = y.length) := by
        have h1 := HKM.out
        unfold misN at h1
        rw [HN.out] at h1 ⊢
        split at h1
        · omega
        · have := HS.out (by omega) HG.out
          exact ⟨by omega, by omega⟩
      obtain ⟨m, er, hd⟩ : ∃ m er, dec y = (m, er) := ⟨_, _, rfl⟩
      have HD : Hid (dec y = (m, er)) := hd
      have HDE := decode_any a n c y HN.out hcap w2 HS2.out.own.lst.1 HS2.out.u8
      rw [hd] at HDE
      clear hd
      go_wp2_with fail
      refine HDE.mono ?_
      rintro e w3 ⟨s, rfl, hmo3, hb3⟩
      dsimp only at hmo3 ⊢
      have HS3 : Hid (Stm N w3 b a c y 0) := HS2.out.bel hb3
      have HM3 : Hid (MB bd ms0 sZ w3) := HM2.out.blk (hb3.block bd HM2.out.lt)
      have HK3 : Hid (Kr w b w3) := HK2.out.bel hb3
      have HMO3 : Hid (MO w2.heap.size w3 m s) := hmo3
      have hbd2 := HM2.out.lt
      clear hb3 hmo3 HDE HS2 HM2 HK2 c0 c1 f0 f1
      go_wp2_with (refine list_mstore rfl _ _ rfl (b := bd) (m := m) (s := s) rfl rfl HM3.out ?_)
      intro w4 hm4 hk4
      have HS4 : Hid (Stm N w4 b a c y 0) := HS3.out.blk (hk4.out.block b HS3.out.hl hbne) (fun g e _ hl => hk4.out.block g hl (by have := HSR.out g e; omega))
      have HM4 : Hid (MB bd m s w4) := hm4
      have HK4 : Hid (Kr w b w4) := HK3.out.other hk4.out hbdw
      have HMO4 : Hid (MO w2.heap.size w4 m s) := HMO3.out.blk (fun g hg hg2 hl => hk4.out.block g hl (by omega))
      clear hm4 hk4 HS3 HM3 HK3 HMO3
      obtain ⟨w5, hw5⟩ : ∃ w5, w4.setCell ⟨b, 1, none⟩ (.int .i64 er) = w5 := ⟨_, rfl⟩
      have HS5 : Hid (Stm N w5 b a c y er) := by rw [← hw5]; exact HS4.out.fault er
      have hk5 : Kr w4 b w5 := by rw [← hw5]; exact Kr.set _ _ _ _
      have HM5 : Hid (MB bd m s w5) := HM4.out.blk (hk5.block bd HM4.out.lt hbne2)
      have HK5 : Hid (Kr w b w5) := HK4.out.trans hk5
      have HMO5 : Hid (MO w2.heap.size w5 m s) := HMO4.out.blk (fun g hg hg2 hl => hk5.block g hl (by omega))
      have HW5 : Hid (w4.setCell ⟨b, 1, none⟩ (.int .i64 er) = w5) := hw5
      have c0 := HS4.out.c0
      have c1 := HS4.out.c1
      have f0 := HS4.out.f0 0
      have f1 := HS4.out.f0 1
      rw [HN.out] at c0
      clear hw5 hk5 HS4 HM4 HK4 HMO4
      go_upto_region 5 with fail
      rw [HW5.out]
      clear HW5 c0 c1 f0 f1
      have c0 := HS5.out.c0
      have c1 := HS5.out.c1
      have f0 := HS5.out.f0 0
      have f1 := HS5.out.f0 1
      rw [HN.out] at c0
      obtain ⟨w6, hw6⟩ : ∃ w6, w5.setCell ⟨b, 0, none⟩ (.slice none 0 0) = w6 := ⟨_, rfl⟩
      have hs6 : Stm N w6 b none 0 [] er := by rw [← hw6]; exact HS5.out.none
      have hk6 : Kr w5 b w6 := by rw [← hw6]; exact Kr.set _ _ _ _
      have hm6 : MB bd m s w6 := HM5.out.blk (hk6.block bd HM5.out.lt hbne2)
      have hmo6 : MO w2.heap.size w6 m s := HMO5.out.blk (fun g hg hg2 hl => hk6.block g hl (by omega))
      have HSD : Hid (Stm N w6.drew b none 0 [] er) := hs6.drew
      have HMD : Hid (MB bd m s w6.drew) := hm6.blk rfl
      have HKD : Hid (Kr w b w6.drew) := (HK5.out.trans hk6).bel (drew_bel w6)
      have HMOD : Hid (MO w.heap.size w6.drew m s) := (hmo6.blk (w' := w6.drew) (fun _ _ _ _ => rfl)).mono hbs2
      have HW6 : Hid (w5.setCell ⟨b, 0, none⟩ (.slice none 0 0) = w6) := hw6
      clear hw6 hs6 hk6 hm6 hmo6 HS5 HM5 HK5 HMO5
      by_cases he0 : er = 0
      · subst he0
        have HP : Hid (msgP y = (some m, [], 0)) := by show _ = _; unfold msgP; rw [HG.out, if_neg (by simp), if_pos HWH.out, HD.out]; rfl
        have HQ : Hid (MgPost N w b a y (.returned (.tuple #[msV m s, .bool true])) w6.drew) := by
          show MgPost _ _ _ _ _ _ _
          unfold MgPost
          rw [HP.out]
          exact ⟨m, s, none, 0, rfl, (fun _ e => by cases e; rfl), HMOD.out, HSD.out, HKD.out, (fun _ e => by cases e)⟩
        clear HMOD HKD HP
        go_upto_region 7 with fail
        rw [HW6.out]
        clear HW6 c0 c1 f0 f1
        apply wp_meet
        case h1 =>
          refine wp_region_held_drew (S := fun W' => W' = w6.drew) (by kernel_rfl) rfl (fun hHeld => ?_)
          refine wpAnyH_take (i := 0) (v := msV m s) rfl (by kernel_rfl) (by kernel_rfl) (by kernel_rfl) (fun _ _ _ h => by cases h.1) (Or.inl ⟨by rfl, (fun W' hW' => by subst hW'; exact mload_run _ rfl rfl HMD.out)⟩) rfl ?_
          try simp only [Act.put, List.getElem_toArray, List.getElem_cons_zero, List.setIfInBounds_toArray, List.set_cons_zero, List.set_cons_succ]
          refine wpAnyH_take (i := 1) (v := .bool true) rfl (by kernel_rfl) (by kernel_rfl) (by kernel_rfl) (fun _ _ _ h => by cases h.1) (Or.inl ⟨by rfl, (fun W' hW' => by go_simp)⟩) rfl ?_
          try simp only [Act.put, List.getElem_toArray, List.getElem_cons_zero, List.getElem_cons_succ, List.setIfInBounds_toArray, List.set_cons_zero, List.set_cons_succ]
          refine wpAnyH_take (i := 2) (v := .bool true) rfl (by kernel_rfl) (by kernel_rfl) (by kernel_rfl) (fun _ _ _ h => by cases h.1) (Or.inl ⟨by rfl, (fun W' hW' => by go_simp)⟩) rfl ?_
          try simp only [Act.put, List.getElem_toArray, List.getElem_cons_zero, List.getElem_cons_succ, List.setIfInBounds_toArray, List.set_cons_zero, List.set_cons_succ]
          refine wpAnyH_take (i := 3) (v := .pointer (some ⟨b, 0, none⟩)) rfl (by kernel_rfl) (by kernel_rfl) (by kernel_rfl) (fun _ _ _ h => by cases h.1) (Or.inl ⟨by rfl, (fun W' hW' => by go_simp)⟩) rfl ?_
          try simp only [Act.put, List.getElem_toArray, List.getElem_cons_zero, List.getElem_cons_succ, List.setIfInBounds_toArray, List.set_cons_zero, List.set_cons_succ]
          refine wpAnyH_take (i := 4) (v := .pointer (some ⟨b, 0, none⟩)) rfl (by kernel_rfl) (by kernel_rfl) (by kernel_rfl) (fun _ _ _ h => by cases h.1) (Or.inl ⟨by rfl, (fun W' hW' => by go_simp)⟩) rfl ?_
          try simp only [Act.put, List.getElem_toArray, List.getElem_cons_zero, List.getElem_cons_succ, List.setIfInBounds_toArray, List.set_cons_zero, List.set_cons_succ]
          refine wpAnyH_take (i := 5) (v := .pointer (some ⟨b, 1, none⟩)) rfl (by kernel_rfl) (by kernel_rfl) (by kernel_rfl) (fun _ _ _ h => by cases h.1) (Or.inl ⟨by rfl, (fun W' hW' => by go_simp)⟩) rfl ?_
          try simp only [Act.put, List.getElem_toArray, List.getElem_cons_zero, List.getElem_cons_succ, List.setIfInBounds_toArray, List.set_cons_zero, List.set_cons_succ]
          refine wpAnyH_ready (rs := [6, 9]) (by kernel_rfl) (by simp) ?_
          refine AllReadyH.cons rfl (fun K hK => step_val (by rfl) (fload_run _ rfl rfl HSD.out) (hK.out _ _ rfl (fun _ => ?_))) (AllReadyH.cons rfl (fun K hK => step_skip (by rfl) (mstore_run _ _ rfl rfl rfl HMD.out) (hK.out _ _ rfl (fun _ => ?_))) AllReadyH.nil)
          case refine_1 =>
            try simp only [Act.put, List.getElem_toArray, List.getElem_cons_zero, List.getElem_cons_succ, List.setIfInBounds_toArray, List.set_cons_zero, List.set_cons_succ]
            refine wpAnyH_take (i := 7) (v := .bool true) rfl (by kernel_rfl) (by kernel_rfl) (by kernel_rfl) (fun _ _ _ h => by cases h.1) (Or.inl ⟨by rfl, (fun W' hW' => by go_simp)⟩) rfl ?_
            try simp only [Act.put, List.getElem_toArray, List.getElem_cons_zero, List.getElem_cons_succ, List.setIfInBounds_toArray, List.set_cons_zero, List.set_cons_succ]
            refine wpAnyH_take (i := 8) (v := .bool true) rfl (by kernel_rfl) (by kernel_rfl) (by kernel_rfl) (fun _ _ _ h => by cases h.1) (Or.inl ⟨by rfl, (fun W' hW' => by go_simp)⟩) rfl ?_
            try simp only [Act.put, List.getElem_toArray, List.getElem_cons_zero, List.getElem_cons_succ, List.setIfInBounds_toArray, List.set_cons_zero, List.set_cons_succ]
            refine wpAnyH_ready (rs := [9]) (by kernel_rfl) (by simp) ?_
            refine AllReadyH.cons rfl (fun K hK => step_skip (by rfl) (mstore_run _ _ rfl rfl rfl HMD.out) (hK.out _ _ rfl (fun _ => ?_))) AllReadyH.nil
            try simp only [Act.put, List.getElem_toArray, List.getElem_cons_zero, List.getElem_cons_succ]
            refine wpAnyH_take (i := 10) (v := .bool true) rfl (by kernel_rfl) (by kernel_rfl) (by kernel_rfl) (fun _ _ _ h => by cases h.1) (Or.inl ⟨by rfl, (fun W' hW' => by go_simp)⟩) rfl ?_
            try simp only [Act.put, List.getElem_toArray, List.getElem_cons_zero, List.getElem_cons_succ, List.setIfInBounds_toArray, List.set_cons_zero, List.set_cons_succ]
            refine wpAnyH_done (by kernel_rfl) ?_ _
            exact ⟨rfl, rfl, rfl⟩
          case refine_2 =>
            try simp only [Act.put, List.getElem_toArray, List.getElem_cons_zero, List.getElem_cons_succ]
            refine wpAnyH_ready (rs := [6]) (by kernel_rfl) (by simp) ?_
            refine AllReadyH.cons rfl (fun K hK => step_val (by rfl) (fload_run _ rfl rfl HSD.out) (hK.out _ _ rfl (fun _ => ?_))) AllReadyH.nil
            try simp only [Act.put, List.getElem_toArray, List.getElem_cons_zero, List.getElem_cons_succ, List.setIfInBounds_toArray, List.set_cons_zero, List.set_cons_succ]
            refine wpAnyH_take (i := 7) (v := .bool true) rfl (by kernel_rfl) (by kernel_rfl) (by kernel_rfl) (fun _ _ _ h => by cases h.1) (Or.inl ⟨by rfl, (fun W' hW' => by go_simp)⟩) rfl ?_
            try simp only [Act.put, List.getElem_toArray, List.getElem_cons_zero, List.getElem_cons_succ, List.setIfInBounds_toArray, List.set_cons_zero, List.set_cons_succ]
            refine wpAnyH_take (i := 8) (v := .bool true) rfl (by kernel_rfl) (by kernel_rfl) (by kernel_rfl) (fun _ _ _ h => by cases h.1) (Or.inl ⟨by rfl, (fun W' hW' => by go_simp)⟩) rfl ?_
            try simp only [Act.put, List.getElem_toArray, List.getElem_cons_zero, List.getElem_cons_succ, List.setIfInBounds_toArray, List.set_cons_zero, List.set_cons_succ]
            refine wpAnyH_take (i := 10) (v := .bool true) rfl (by kernel_rfl) (by kernel_rfl) (by kernel_rfl) (fun _ _ _ h => by cases h.1) (Or.inl ⟨by rfl, (fun W' hW' => by go_simp)⟩) rfl ?_
            try simp only [Act.put, List.getElem_toArray, List.getElem_cons_zero, List.getElem_cons_succ, List.setIfInBounds_toArray, List.set_cons_zero, List.set_cons_succ]
            refine wpAnyH_done (by kernel_rfl) ?_ _
            exact ⟨rfl, rfl, rfl⟩
        case h2 =>
          obtain ⟨wD, hwD⟩ : ∃ wD, w6.drew = wD := ⟨_, rfl⟩
          rw [hwD] at HMD HQ ⊢
          clear hwD HSD
          go_wp2_with fail
          exact bodyPost_ret (msg_res HMD.out rfl rfl) rfl HQ.out
      · have heb : (er == 0) = false := by rw [beq_eq_false_iff_ne]; exact he0
        have hen : (er != 0) = true := by simpa using he0
        have HP : Hid (msgP y = (none, [], er)) := by show _ = _; unfold msgP; rw [HG.out, if_neg (by simp), if_pos HWH.out, HD.out, if_neg he0]
        have HQ : Hid (MgPost N w b a y (.returned (.tuple #[msV m s, .bool false])) w6.drew) := by
          show MgPost _ _ _ _ _ _ _
          unfold MgPost
          rw [HP.out]
          exact ⟨m, s, none, 0, rfl, (fun _ e => by cases e), HMOD.out, HSD.out, HKD.out, (fun _ e => by cases e)⟩
        clear HMOD HKD HP
        go_upto_region 7 with fail
        rw [HW6.out]
        clear HW6 c0 c1 f0 f1
        apply wp_meet
        case h1 =>
          refine wp_region_held_drew (S := fun W' => W' = w6.drew) (by kernel_rfl) rfl (fun hHeld => ?_)
          refine wpAnyH_take (i := 0) (v := msV m s) rfl (by kernel_rfl) (by kernel_rfl) (by kernel_rfl) (fun _ _ _ h => by cases h.1) (Or.inl ⟨by rfl, (fun W' hW' => by subst hW'; exact mload_run _ rfl rfl HMD.out)⟩) rfl ?_
          try simp only [Act.put, List.getElem_toArray, List.getElem_cons_zero, List.setIfInBounds_toArray, List.set_cons_zero, List.set_cons_succ]
          refine wpAnyH_take (i := 1) (v := .bool true) rfl (by kernel_rfl) (by kernel_rfl) (by kernel_rfl) (fun _ _ _ h => by cases h.1) (Or.inl ⟨by rfl, (fun W' hW' => by go_simp)⟩) rfl ?_
          try simp only [Act.put, List.getElem_toArray, List.getElem_cons_zero, List.getElem_cons_succ, List.setIfInBounds_toArray, List.set_cons_zero, List.set_cons_succ]
          refine wpAnyH_take (i := 2) (v := .bool true) rfl (by kernel_rfl) (by kernel_rfl) (by kernel_rfl) (fun _ _ _ h => by cases h.1) (Or.inl ⟨by rfl, (fun W' hW' => by go_simp)⟩) rfl ?_
          try simp only [Act.put, List.getElem_toArray, List.getElem_cons_zero, List.getElem_cons_succ, List.setIfInBounds_toArray, List.set_cons_zero, List.set_cons_succ]
          refine wpAnyH_take (i := 3) (v := .pointer (some ⟨b, 0, none⟩)) rfl (by kernel_rfl) (by kernel_rfl) (by kernel_rfl) (fun _ _ _ h => by cases h.1) (Or.inl ⟨by rfl, (fun W' hW' => by go_simp)⟩) rfl ?_
          try simp only [Act.put, List.getElem_toArray, List.getElem_cons_zero, List.getElem_cons_succ, List.setIfInBounds_toArray, List.set_cons_zero, List.set_cons_succ]
          refine wpAnyH_take (i := 4) (v := .pointer (some ⟨b, 0, none⟩)) rfl (by kernel_rfl) (by kernel_rfl) (by kernel_rfl) (fun _ _ _ h => by cases h.1) (Or.inl ⟨by rfl, (fun W' hW' => by go_simp)⟩) rfl ?_
          try simp only [Act.put, List.getElem_toArray, List.getElem_cons_zero, List.getElem_cons_succ, List.setIfInBounds_toArray, List.set_cons_zero, List.set_cons_succ]
          refine wpAnyH_take (i := 5) (v := .pointer (some ⟨b, 1, none⟩)) rfl (by kernel_rfl) (by kernel_rfl) (by kernel_rfl) (fun _ _ _ h => by cases h.1) (Or.inl ⟨by rfl, (fun W' hW' => by go_simp)⟩) rfl ?_
          try simp only [Act.put, List.getElem_toArray, List.getElem_cons_zero, List.getElem_cons_succ, List.setIfInBounds_toArray, List.set_cons_zero, List.set_cons_succ]
          refine wpAnyH_ready (rs := [6, 9]) (by kernel_rfl) (by simp) ?_
          refine AllReadyH.cons rfl (fun K hK => step_val (by rfl) (fload_run _ rfl rfl HSD.out) (hK.out _ _ rfl (fun _ => ?_))) (AllReadyH.cons rfl (fun K hK => step_skip (by rfl) (mstore_run _ _ rfl rfl rfl HMD.out) (hK.out _ _ rfl (fun _ => ?_))) AllReadyH.nil)
          case refine_1 =>
            try simp only [Act.put, List.getElem_toArray, List.getElem_cons_zero, List.getElem_cons_succ, List.setIfInBounds_toArray, List.set_cons_zero, List.set_cons_succ]
            refine wpAnyH_take (i := 7) (v := .bool false) rfl (by kernel_rfl) (by kernel_rfl) (by kernel_rfl) (fun _ _ _ h => by cases h.1) (Or.inl ⟨by rfl, (fun W' hW' => by go_simp)⟩) rfl ?_
            try simp only [Act.put, List.getElem_toArray, List.getElem_cons_zero, List.getElem_cons_succ, List.setIfInBounds_toArray, List.set_cons_zero, List.set_cons_succ]
            refine wpAnyH_take (i := 8) (v := .bool false) rfl (by kernel_rfl) (by kernel_rfl) (by kernel_rfl) (fun _ _ _ h => by cases h.1) (Or.inl ⟨by rfl, (fun W' hW' => by go_simp)⟩) rfl ?_
            try simp only [Act.put, List.getElem_toArray, List.getElem_cons_zero, List.getElem_cons_succ, List.setIfInBounds_toArray, List.set_cons_zero, List.set_cons_succ]
            refine wpAnyH_ready (rs := [9]) (by kernel_rfl) (by simp) ?_
            refine AllReadyH.cons rfl (fun K hK => step_skip (by rfl) (mstore_run _ _ rfl rfl rfl HMD.out) (hK.out _ _ rfl (fun _ => ?_))) AllReadyH.nil
            try simp only [Act.put, List.getElem_toArray, List.getElem_cons_zero, List.getElem_cons_succ]
            refine wpAnyH_take (i := 10) (v := .bool false) rfl (by kernel_rfl) (by kernel_rfl) (by kernel_rfl) (fun _ _ _ h => by cases h.1) (Or.inl ⟨by rfl, (fun W' hW' => by go_simp)⟩) rfl ?_
            try simp only [Act.put, List.getElem_toArray, List.getElem_cons_zero, List.getElem_cons_succ, List.setIfInBounds_toArray, List.set_cons_zero, List.set_cons_succ]
            refine wpAnyH_done (by kernel_rfl) ?_ _
            exact ⟨rfl, rfl, rfl⟩
          case refine_2 =>
            try simp only [Act.put, List.getElem_toArray, List.getElem_cons_zero, List.getElem_cons_succ]
            refine wpAnyH_ready (rs := [6]) (by kernel_rfl) (by simp) ?_
            refine AllReadyH.cons rfl (fun K hK => step_val (by rfl) (fload_run _ rfl rfl HSD.out) (hK.out _ _ rfl (fun _ => ?_))) AllReadyH.nil
            try simp only [Act.put, List.getElem_toArray, List.getElem_cons_zero, List.getElem_cons_succ, List.setIfInBounds_toArray, List.set_cons_zero, List.set_cons_succ]
            refine wpAnyH_take (i := 7) (v := .bool false) rfl (by kernel_rfl) (by kernel_rfl) (by kernel_rfl) (fun _ _ _ h => by cases h.1) (Or.inl ⟨by rfl, (fun W' hW' => by go_simp)⟩) rfl ?_
            try simp only [Act.put, List.getElem_toArray, List.getElem_cons_zero, List.getElem_cons_succ, List.setIfInBounds_toArray, List.set_cons_zero, List.set_cons_succ]
            refine wpAnyH_take (i := 8) (v := .bool false) rfl (by kernel_rfl) (by kernel_rfl) (by kernel_rfl) (fun _ _ _ h => by cases h.1) (Or.inl ⟨by rfl, (fun W' hW' => by go_simp)⟩) rfl ?_
            try simp only [Act.put, List.getElem_toArray, List.getElem_cons_zero, List.getElem_cons_succ, List.setIfInBounds_toArray, List.set_cons_zero, List.set_cons_succ]
            refine wpAnyH_take (i := 10) (v := .bool false) rfl (by kernel_rfl) (by kernel_rfl) (by kernel_rfl) (fun _ _ _ h => by cases h.1) (Or.inl ⟨by rfl, (fun W' hW' => by go_simp)⟩) rfl ?_
            try simp only [Act.put, List.getElem_toArray, List.getElem_cons_zero, List.getElem_cons_succ, List.setIfInBounds_toArray, List.set_cons_zero, List.set_cons_succ]
            refine wpAnyH_done (by kernel_rfl) ?_ _
            exact ⟨rfl, rfl, rfl⟩
        case h2 =>
          obtain ⟨wD, hwD⟩ : ∃ wD, w6.drew = wD := ⟨_, rfl⟩
          rw [hwD] at HMD HQ ⊢
          clear hwD HSD
          go_wp2_with fail
          exact bodyPost_ret (msg_res HMD.out rfl rfl) rfl HQ.out
    · have hkb : ((k : Int) == 0) = false := by rw [beq_eq_false_iff_ne]; omega
      have HP : Hid (msgP y = (none, y, 0)) := by
        show _ = _
        unfold msgP
        rw [HG.out, if_neg (by simp), if_neg ?_]
        intro hw
        apply hk0
        rw [← HKM.out]
        unfold misN
        rw [if_neg (by omega), hw.2]
        omega
      have HSD : Hid (Stm N w2.drew b a c y 0) := HS2.out.drew
      have HMD : Hid (MB bd ms0 sZ w2.drew) := HM2.out.blk rfl
      have HQ : Hid (MgPost N w b a y (.returned (.tuple #[msV ms0 sZ, .bool false])) w2.drew) := by
        show MgPost _ _ _ _ _ _ _
        unfold MgPost
        rw [HP.out]
        exact ⟨ms0, sZ, a, c, rfl, (fun _ e => by cases e), mo_zero _ _ _ rfl rfl rfl, HSD.out, HK2.out.bel (drew_bel w2), (fun g e => e)⟩
      clear HS2 HM2 HK2
      go_upto_region 7 with fail
      clear c0 c1 f0 f1
      apply wp_meet
      case h1 =>
        refine wp_region_held_drew (S := fun W' => W' = w2.drew) (by kernel_rfl) rfl (fun hHeld => ?_)
        refine wpAnyH_take (i := 0) (v := msV ms0 sZ) rfl (by kernel_rfl) (by kernel_rfl) (by kernel_rfl) (fun _ _ _ h => by cases h.1) (Or.inl ⟨by rfl, (fun W' hW' => by subst hW'; exact mload_run _ rfl rfl HMD.out)⟩) rfl ?_
        try simp only [Act.put, List.getElem_toArray, List.getElem_cons_zero, List.setIfInBounds_toArray, List.set_cons_zero, List.set_cons_succ]
        refine wpAnyH_take (i := 1) (v := .bool false) rfl (by kernel_rfl) (by kernel_rfl) (by kernel_rfl) (fun _ _ _ h => by cases h.1) (Or.inl ⟨by rfl, (fun W' hW' => by go_simp)⟩) rfl ?_
        try simp only [Act.put, List.getElem_toArray, List.getElem_cons_zero, List.getElem_cons_succ, List.setIfInBounds_toArray, List.set_cons_zero, List.set_cons_succ]
        refine wpAnyH_take (i := 2) (v := .bool false) rfl (by kernel_rfl) (by kernel_rfl) (by kernel_rfl) (fun _ _ _ h => by cases h.1) (Or.inl ⟨by rfl, (fun W' hW' => by go_simp)⟩) rfl ?_
        try simp only [Act.put, List.getElem_toArray, List.getElem_cons_zero, List.getElem_cons_succ, List.setIfInBounds_toArray, List.set_cons_zero, List.set_cons_succ]
        refine wpAnyH_take (i := 3) (v := undef) rfl (by kernel_rfl) (by kernel_rfl) (by kernel_rfl) (fun _ _ _ h => by cases h.1) (Or.inr ⟨by rfl, rfl⟩) rfl ?_
        try simp only [Act.put, List.getElem_toArray, List.getElem_cons_zero, List.getElem_cons_succ, List.setIfInBounds_toArray, List.set_cons_zero, List.set_cons_succ]
        refine wpAnyH_take (i := 4) (v := undef) rfl (by kernel_rfl) (by kernel_rfl) (by kernel_rfl) (fun _ _ _ h => by cases h.1) (Or.inr ⟨by rfl, rfl⟩) rfl ?_
        try simp only [Act.put, List.getElem_toArray, List.getElem_cons_zero, List.getElem_cons_succ, List.setIfInBounds_toArray, List.set_cons_zero, List.set_cons_succ]
        refine wpAnyH_take (i := 5) (v := undef) rfl (by kernel_rfl) (by kernel_rfl) (by kernel_rfl) (fun _ _ _ h => by cases h.1) (Or.inr ⟨by rfl, rfl⟩) rfl ?_
        try simp only [Act.put, List.getElem_toArray, List.getElem_cons_zero, List.getElem_cons_succ, List.setIfInBounds_toArray, List.set_cons_zero, List.set_cons_succ]
        refine wpAnyH_ready (rs := [6, 9]) (by kernel_rfl) (by simp) ?_
        refine AllReadyH.cons rfl (fun K hK => step_off (by rfl) (hK.out _ _ rfl (fun _ => ?_))) (AllReadyH.cons rfl (fun K hK => step_skip (by rfl) (mstore_run _ _ rfl rfl rfl HMD.out) (hK.out _ _ rfl (fun _ => ?_))) AllReadyH.nil)
        case refine_1 =>
          try simp only [Act.put, List.getElem_toArray, List.getElem_cons_zero, List.getElem_cons_succ, List.setIfInBounds_toArray, List.set_cons_zero, List.set_cons_succ]
          refine wpAnyH_take (i := 7) (v := undef) rfl (by kernel_rfl) (by kernel_rfl) (by kernel_rfl) (fun _ _ _ h => by cases h.1) (Or.inr ⟨by rfl, rfl⟩) rfl ?_
          try simp only [Act.put, List.getElem_toArray, List.getElem_cons_zero, List.getElem_cons_succ, List.setIfInBounds_toArray, List.set_cons_zero, List.set_cons_succ]
          refine wpAnyH_take (i := 8) (v := .bool false) rfl (by kernel_rfl) (by kernel_rfl) (by kernel_rfl) (fun _ _ _ h => by cases h.1) (Or.inl ⟨by rfl, (fun W' hW' => by go_simp)⟩) rfl ?_
          try simp only [Act.put, List.getElem_toArray, List.getElem_cons_zero, List.getElem_cons_succ, List.setIfInBounds_toArray, List.set_cons_zero, List.set_cons_succ]
          refine wpAnyH_ready (rs := [9]) (by kernel_rfl) (by simp) ?_
          refine AllReadyH.cons rfl (fun K hK => step_skip (by rfl) (mstore_run _ _ rfl rfl rfl HMD.out) (hK.out _ _ rfl (fun _ => ?_))) AllReadyH.nil
          try simp only [Act.put, List.getElem_toArray, List.getElem_cons_zero, List.getElem_cons_succ]
          refine wpAnyH_take (i := 10) (v := .bool false) rfl (by kernel_rfl) (by kernel_rfl) (by kernel_rfl) (fun _ _ _ h => by cases h.1) (Or.inl ⟨by rfl, (fun W' hW' => by go_simp)⟩) rfl ?_
          try simp only [Act.put, List.getElem_toArray, List.getElem_cons_zero, List.getElem_cons_succ, List.setIfInBounds_toArray, List.set_cons_zero, List.set_cons_succ]
          refine wpAnyH_done (by kernel_rfl) ?_ _
          exact ⟨rfl, rfl, rfl⟩
        case refine_2 =>
          try simp only [Act.put, List.getElem_toArray, List.getElem_cons_zero, List.getElem_cons_succ]
          refine wpAnyH_ready (rs := [6]) (by kernel_rfl) (by simp) ?_
          refine AllReadyH.cons rfl (fun K hK => step_off (by rfl) (hK.out _ _ rfl (fun _ => ?_))) AllReadyH.nil
          try simp only [Act.put, List.getElem_toArray, List.getElem_cons_zero, List.getElem_cons_succ, List.setIfInBounds_toArray, List.set_cons_zero, List.set_cons_succ]
          refine wpAnyH_take (i := 7) (v := undef) rfl (by kernel_rfl) (by kernel_rfl) (by kernel_rfl) (fun _ _ _ h => by cases h.1) (Or.inr ⟨by rfl, rfl⟩) rfl ?_
          try simp only [Act.put, List.getElem_toArray, List.getElem_cons_zero, List.getElem_cons_succ, List.setIfInBounds_toArray, List.set_cons_zero, List.set_cons_succ]
          refine wpAnyH_take (i := 8) (v := .bool false) rfl (by kernel_rfl) (by kernel_rfl) (by kernel_rfl) (fun _ _ _ h => by cases h.1) (Or.inl ⟨by rfl, (fun W' hW' => by go_simp)⟩) rfl ?_
          try simp only [Act.put, List.getElem_toArray, List.getElem_cons_zero, List.getElem_cons_succ, List.setIfInBounds_toArray, List.set_cons_zero, List.set_cons_succ]
          refine wpAnyH_take (i := 10) (v := .bool false) rfl (by kernel_rfl) (by kernel_rfl) (by kernel_rfl) (fun _ _ _ h => by cases h.1) (Or.inl ⟨by rfl, (fun W' hW' => by go_simp)⟩) rfl ?_
          try simp only [Act.put, List.getElem_toArray, List.getElem_cons_zero, List.getElem_cons_succ, List.setIfInBounds_toArray, List.set_cons_zero, List.set_cons_succ]
          refine wpAnyH_done (by kernel_rfl) ?_ _
          exact ⟨rfl, rfl, rfl⟩
      case h2 =>
        obtain ⟨wD, hwD⟩ : ∃ wD, w2.drew = wD := ⟨_, rfl⟩
        rw [hwD] at HMD HQ ⊢
        clear hwD HSD
        go_wp2_with fail
        exact bodyPost_ret (msg_res HMD.out rfl rfl) rfl HQ.out
  · have hgb : (g == 0) = false := by rw [beq_eq_false_iff_ne]; exact hg0
    have hgn : (g != 0) = true := by simpa using hg0
    have HP : Hid (msgP y = (none, [], g)) := by show _ = _; unfold msgP; rw [HG.out, if_pos hg0]
    go_upto_region 2 with fail
    rw [HW1.out]
    clear HW1 c0 c1 f0 f1
    have c0 := HS1.out.c0
    have c1 := HS1.out.c1
    have f0 := HS1.out.f0 0
    have f1 := HS1.out.f0 1
    rw [HN.out] at c0
    obtain ⟨w2, hw2⟩ : ∃ w2, w1.setCell ⟨b, 0, none⟩ (.slice none 0 0) = w2 := ⟨_, rfl⟩
    have hs2 : Stm N w2 b none 0 [] g := by rw [← hw2]; exact HS1.out.none
    have hk2 : Kr w1 b w2 := by rw [← hw2]; exact Kr.set _ _ _ _
    have hm2 : MB bd ms0 sZ w2 := HM1.out.blk (hk2.block bd HM1.out.lt hbne2)
    have HSD : Hid (Stm N w2.drew b none 0 [] g) := hs2.drew
    have HMD : Hid (MB bd ms0 sZ w2.drew) := hm2.blk rfl
    have HQ : Hid (MgPost N w b a y (.returned (.tuple #[msV ms0 sZ, .bool false])) w2.drew) := by
      show MgPost _ _ _ _ _ _ _
      unfold MgPost
      rw [HP.out]
      exact ⟨ms0, sZ, none, 0, rfl, (fun _ e => by cases e), mo_zero _ _ _ rfl rfl rfl, HSD.out, (HK1.out.trans hk2).bel (drew_bel w2), (fun _ e => by cases e)⟩
    have HW2 : Hid (w1.setCell ⟨b, 0, none⟩ (.slice none 0 0) = w2) := hw2
    clear hw2 hs2 hk2 hm2 HS1 HM1 HK1
    go_upto_region 7 with fail
    rw [HW2.out]
    clear HW2 c0 c1 f0 f1
    apply wp_meet
    case h1 =>
      refine wp_region_held_drew (S := fun W' => W' = w2.drew) (by kernel_rfl) rfl (fun hHeld => ?_)
      refine wpAnyH_take (i := 0) (v := msV ms0 sZ) rfl (by kernel_rfl) (by kernel_rfl) (by kernel_rfl) (fun _ _ _ h => by cases h.1) (Or.inl ⟨by rfl, (fun W' hW' => by subst hW'; exact mload_run _ rfl rfl HMD.out)⟩) rfl ?_
      try simp only [Act.put, List.getElem_toArray, List.getElem_cons_zero, List.setIfInBounds_toArray, List.set_cons_zero, List.set_cons_succ]
      refine wpAnyH_take (i := 1) (v := .bool false) rfl (by kernel_rfl) (by kernel_rfl) (by kernel_rfl) (fun _ _ _ h => by cases h.1) (Or.inl ⟨by rfl, (fun W' hW' => by go_simp)⟩) rfl ?_
      try simp only [Act.put, List.getElem_toArray, List.getElem_cons_zero, List.getElem_cons_succ, List.setIfInBounds_toArray, List.set_cons_zero, List.set_cons_succ]
      refine wpAnyH_take (i := 2) (v := .bool false) rfl (by kernel_rfl) (by kernel_rfl) (by kernel_rfl) (fun _ _ _ h => by cases h.1) (Or.inl ⟨by rfl, (fun W' hW' => by go_simp)⟩) rfl ?_
      try simp only [Act.put, List.getElem_toArray, List.getElem_cons_zero, List.getElem_cons_succ, List.setIfInBounds_toArray, List.set_cons_zero, List.set_cons_succ]
      refine wpAnyH_take (i := 3) (v := undef) rfl (by kernel_rfl) (by kernel_rfl) (by kernel_rfl) (fun _ _ _ h => by cases h.1) (Or.inr ⟨by rfl, rfl⟩) rfl ?_
      try simp only [Act.put, List.getElem_toArray, List.getElem_cons_zero, List.getElem_cons_succ, List.setIfInBounds_toArray, List.set_cons_zero, List.set_cons_succ]
      refine wpAnyH_take (i := 4) (v := undef) rfl (by kernel_rfl) (by kernel_rfl) (by kernel_rfl) (fun _ _ _ h => by cases h.1) (Or.inr ⟨by rfl, rfl⟩) rfl ?_
      try simp only [Act.put, List.getElem_toArray, List.getElem_cons_zero, List.getElem_cons_succ, List.setIfInBounds_toArray, List.set_cons_zero, List.set_cons_succ]
      refine wpAnyH_take (i := 5) (v := undef) rfl (by kernel_rfl) (by kernel_rfl) (by kernel_rfl) (fun _ _ _ h => by cases h.1) (Or.inr ⟨by rfl, rfl⟩) rfl ?_
      try simp only [Act.put, List.getElem_toArray, List.getElem_cons_zero, List.getElem_cons_succ, List.setIfInBounds_toArray, List.set_cons_zero, List.set_cons_succ]
      refine wpAnyH_ready (rs := [6, 9]) (by kernel_rfl) (by simp) ?_
      refine AllReadyH.cons rfl (fun K hK => step_off (by rfl) (hK.out _ _ rfl (fun _ => ?_))) (AllReadyH.cons rfl (fun K hK => step_skip (by rfl) (mstore_run _ _ rfl rfl rfl HMD.out) (hK.out _ _ rfl (fun _ => ?_))) AllReadyH.nil)
      case refine_1 =>
        try simp only [Act.put, List.getElem_toArray, List.getElem_cons_zero, List.getElem_cons_succ, List.setIfInBounds_toArray, List.set_cons_zero, List.set_cons_succ]
        refine wpAnyH_take (i := 7) (v := undef) rfl (by kernel_rfl) (by kernel_rfl) (by kernel_rfl) (fun _ _ _ h => by cases h.1) (Or.inr ⟨by rfl, rfl⟩) rfl ?_
        try simp only [Act.put, List.getElem_toArray, List.getElem_cons_zero, List.getElem_cons_succ, List.setIfInBounds_toArray, List.set_cons_zero, List.set_cons_succ]
        refine wpAnyH_take (i := 8) (v := .bool false) rfl (by kernel_rfl) (by kernel_rfl) (by kernel_rfl) (fun _ _ _ h => by cases h.1) (Or.inl ⟨by rfl, (fun W' hW' => by go_simp)⟩) rfl ?_
        try simp only [Act.put, List.getElem_toArray, List.getElem_cons_zero, List.getElem_cons_succ, List.setIfInBounds_toArray, List.set_cons_zero, List.set_cons_succ]
        refine wpAnyH_ready (rs := [9]) (by kernel_rfl) (by simp) ?_
        refine AllReadyH.cons rfl (fun K hK => step_skip (by rfl) (mstore_run _ _ rfl rfl rfl HMD.out) (hK.out _ _ rfl (fun _ => ?_))) AllReadyH.nil
        try simp only [Act.put, List.getElem_toArray, List.getElem_cons_zero, List.getElem_cons_succ]
        refine wpAnyH_take (i := 10) (v := .bool false) rfl (by kernel_rfl) (by kernel_rfl) (by kernel_rfl) (fun _ _ _ h => by cases h.1) (Or.inl ⟨by rfl, (fun W' hW' => by go_simp)⟩) rfl ?_
        try simp only [Act.put, List.getElem_toArray, List.getElem_cons_zero, List.getElem_cons_succ, List.setIfInBounds_toArray, List.set_cons_zero, List.set_cons_succ]
        refine wpAnyH_done (by kernel_rfl) ?_ _
        exact ⟨rfl, rfl, rfl⟩
      case refine_2 =>
        try simp only [Act.put, List.getElem_toArray, List.getElem_cons_zero, List.getElem_cons_succ]
        refine wpAnyH_ready (rs := [6]) (by kernel_rfl) (by simp) ?_
        refine AllReadyH.cons rfl (fun K hK => step_off (by rfl) (hK.out _ _ rfl (fun _ => ?_))) AllReadyH.nil
        try simp only [Act.put, List.getElem_toArray, List.getElem_cons_zero, List.getElem_cons_succ, List.setIfInBounds_toArray, List.set_cons_zero, List.set_cons_succ]
        refine wpAnyH_take (i := 7) (v := undef) rfl (by kernel_rfl) (by kernel_rfl) (by kernel_rfl) (fun _ _ _ h => by cases h.1) (Or.inr ⟨by rfl, rfl⟩) rfl ?_
        try simp only [Act.put, List.getElem_toArray, List.getElem_cons_zero, List.getElem_cons_succ, List.setIfInBounds_toArray, List.set_cons_zero, List.set_cons_succ]
        refine wpAnyH_take (i := 8) (v := .bool false) rfl (by kernel_rfl) (by kernel_rfl) (by kernel_rfl) (fun _ _ _ h => by cases h.1) (Or.inl ⟨by rfl, (fun W' hW' => by go_simp)⟩) rfl ?_
        try simp only [Act.put, List.getElem_toArray, List.getElem_cons_zero, List.getElem_cons_succ, List.setIfInBounds_toArray, List.set_cons_zero, List.set_cons_succ]
        refine wpAnyH_take (i := 10) (v := .bool false) rfl (by kernel_rfl) (by kernel_rfl) (by kernel_rfl) (fun _ _ _ h => by cases h.1) (Or.inl ⟨by rfl, (fun W' hW' => by go_simp)⟩) rfl ?_
        try simp only [Act.put, List.getElem_toArray, List.getElem_cons_zero, List.getElem_cons_succ, List.setIfInBounds_toArray, List.set_cons_zero, List.set_cons_succ]
        refine wpAnyH_done (by kernel_rfl) ?_ _
        exact ⟨rfl, rfl, rfl⟩
    case h2 =>
      obtain ⟨wD, hwD⟩ : ∃ wD, w2.drew = wD := ⟨_, rfl⟩
      rw [hwD] at HMD HQ ⊢
      clear hwD HSD
      go_wp2_with fail
      exact bodyPost_ret (msg_res HMD.out rfl rfl) rfl HQ.out
end Go.Proofs.Ytanboekdfdafmaa.Pv
namespace Go.Proofs.Ytanboekdfdafmaa.Pv
open Go.ChangeShapes Go.WideShapes Go.ChangeAt Go.RowKit Go.Joins Go.Proofs.Ytanboekdfdafmaa.PM Go.Proofs.Ytanboekdfdafmaa.Ask Go.Proofs.Ytanboekdfdafmaa.Ge
set_option linter.unusedVariables false

def E17 : Gm.El (Ms × Sl) := ⟨54, 39, 17, 216, .agg #[.int .i64 0, .int .i64 0, .int .i64 0, .int .i64 0, .int .i64 0, .slice none 0 0, .slice none 0 0, .int .u32 0, .int .i64 0, .slice none 0 0, .int .i64 0, .int .i64 0, .int .i64 0, .int .u32 0, .slice none 0 0, .slice none 0 0, .int .i64 0], fun p => msL p.1 p.2, by decide, by decide, fun _ => rfl, fun x u hu => by
  simp only [msL, List.mem_cons, List.not_mem_nil, or_false] at hu
  rcases hu with rfl | rfl | rfl | rfl | rfl | rfl | rfl | rfl | rfl | rfl | rfl | rfl | rfl | rfl | rfl | rfl | rfl <;> rfl, Try.underlying39, by kernel_rfl, rfl⟩
/-- what comes out of a piece, and what is left -/
def TK (x : List Nat) (f : Int) (b : List Nat) : List Ms × List Nat × Int := if f = 0 then parse (x ++ b) else ([], x, f)
theorem TK_fault {x b : List Nat} {f : Int} (h : f ≠ 0) : TK x f b = ([], x, f) := by unfold TK; rw [if_neg h]
theorem TK_nil {x : List Nat} (h : SOk x) : TK x 0 [] = ([], x, 0) := by unfold TK; rw [if_pos rfl, List.append_nil, parse_wait h]
theorem TK_step {x r : List Nat} (hx : SOk x) (h0 : 0 < r.length) {k : Nat} (hk : min (misN x) r.length = k) {y : List Nat} (hy : x ++ r.take k = y) :
    TK x 0 r = ((msgP y).1.toList ++ (TK (msgP y).2.1 (msgP y).2.2 (r.drop k)).1, (TK (msgP y).2.1 (msgP y).2.2 (r.drop k)).2) ∧ ((msgP y).2.2 = 0 → SOk (msgP y).2.1) ∧ (6 ≤ y.length → bgE y = 0 → y.length ≤ szOf y) := by
  have hm := mis_pos hx
  have hk1 : 1 ≤ k ∧ k ≤ r.length ∧ k ≤ misN x := by omega
  have hyl : y.length = x.length + k := by rw [← hy, List.length_append, List.length_take]; omega
  have hsz : 6 ≤ y.length → bgE y = 0 → y.length ≤ szOf y := by
    intro h6 hb
    have h9 := bg_six hb h6
    by_cases hx6 : x.length < 6
    · have : misN x = 6 - x.length := by unfold misN; rw [if_pos hx6]
      omega
    · have e1 : misN x = szOf x - x.length := by unfold misN; rw [if_neg hx6]
      have e2 : szOf y = szOf x := by rw [← hy]; exact szOf_app (by omega) _
      have := hx.2 (by omega)
      omega
  have hst : (msgP y).2.2 = 0 → SOk (msgP y).2.1 := by
    unfold msgP
    split
    · rename_i hb
      intro h; exact absurd h hb
    · rename_i hb
      have hb0 : bgE y = 0 := by simpa using hb
      split
      · split
        · intro _; exact sok_nil
        · rename_i hd
          intro h; exact absurd h hd
      · rename_i hw
        intro _
        refine ⟨hb0, fun h6 => ?_⟩
        have h1 := hsz h6 hb0
        have h2 : szOf y ≠ y.length := fun e => hw ⟨h6, e⟩
        show y.length < szOf y
        omega
  refine ⟨?_, hst, hsz⟩
  have hlen : (r.drop k).length ≤ r.length - 1 := by rw [List.length_drop]; omega
  have e0 : TK x 0 r = takeP ((r.length - 1) + 1) x 0 r := by unfold TK; rw [if_pos rfl, take_parse _ x r hx (by omega)]
  have e1 : takeP (r.length - 1) (msgP y).2.1 (msgP y).2.2 (r.drop k) = TK (msgP y).2.1 (msgP y).2.2 (r.drop k) := by
    by_cases hf : (msgP y).2.2 = 0
    · unfold TK
      rw [if_pos hf, hf, take_parse _ _ _ (hst hf) hlen]
    · rw [take_fault _ _ hf, TK_fault hf]
  rw [e0]
  unfold takeP
  have hn0 : ¬ (r.length = 0 ∨ (0 : Int) ≠ 0) := by simp; intro e; rw [e] at h0; exact absurd h0 (by simp)
  rw [if_neg hn0, hk, hy, e1]
/-- bytes at a slice are appended -/
theorem step_app8 {ops : Array Oper} {o : Oper} {a : Act} {Q : Exit → Act → World → Prop} {K : Act → World → Prop} {E : Prop} (hgd : o.guard = none) (s x : Operand)
    (ho : o.op = .call { callee := .builtin .append, args := #[s, x], argTypes := #[32, 32] }) (N : Nat) (v : Value) (xs ys : List Nat) (ad : Addr) (n cap : Nat) (W : World) (hs : a.eval s = v) (hown : OwnL E8 N W v xs)
    (hx : a.eval x = .slice (some ad) n cap) (hsrc : Lst E8 W (some ad) ys) (hn : ys.length = n) (hby : xs.length + n ≤ 1048576) (hN : N ≤ W.heap.size)
    (h : ∀ v' w', Hid (OwnL E8 N w' v' (xs ++ ys)) → Hid (W.grownBy w' v.ownBlock) → Hid (v'.ownBlock = v.ownBlock ∨ v'.ownBlock = some W.heap.size) → K (a.put o.dst v') w') :
    if Region.wanted o (yielded ops a.tmps) = true then Oper.wp Try.prog o a W K Q else E := by
  have hw : Region.wanted o (yielded ops a.tmps) = true := by simp [Region.wanted, hgd]
  rw [if_pos hw]
  obtain ⟨i0, hi, hz0, hz1, hz2⟩ := info_of E8.hi
  obtain ⟨v', w', hr, h2, h3, h4, h5⟩ := run_append_own_at (P := Try.prog) W N 32 o.type 5 i0 _ 1 1 Try.underlying32 hi hz0 hz1 hz2 rfl (by decide) v xs.length (E8.cs xs) hown.row ad n cap (E8.cs ys) (by rw [cs_len, hn]; rfl) (by
    intro j u hj
    have hlt : j < ys.length := by have := (List.getElem?_eq_some_iff.1 hj).1; rw [cs_len] at this; simpa [E8] using this
    obtain ⟨b, o', e, -, hc⟩ := lst8 hsrc j hlt
    cases e
    rw [Addr.add_lit, hc]
    have e2 := cs_at E8 ys j hlt 0 (by decide)
    rw [show j * E8.k + 0 = j by simp [E8]] at e2
    rw [e2] at hj
    simpa [E8] using hj) (cs_one E8 ys) (by unfold maxLen; omega) (by omega) hN
  unfold Oper.wp execOp
  simp only [ho, resolve, invoke, builtin, Sem.run_bind, Sem.run_pure, Result.andThen_ok, List.map_toArray, List.map_cons, List.map_nil, hs, hx, hr]
  exact h v' w' ⟨by rw [cs_app, List.length_append, hn]; exact h2⟩ h3 h5
/-- a list of messages that the call has made -/
structure MsL (N : Nat) (W : World) (v : Value) (l : List (Ms × Sl)) : Prop where
  own : Gm.OwnL E17 N W v l
  each : ∀ p ∈ l, MO N W p.1 p.2
  ap : ∀ p ∈ l, ∀ g, Mown p.2 g → ¬ v.ownBlock = some g
  pw : l.Pairwise (fun p q => ∀ g, Mown p.2 g → ¬ Mown q.2 g)
theorem MsL.nil (N : Nat) (W : World) : MsL N W (.slice none 0 0) [] := ⟨Gm.OwnL.nil _ _ _, (fun _ h => by cases h), (fun _ h => by cases h), List.Pairwise.nil⟩
theorem MsL.blk {N : Nat} {W W' : World} {v : Value} {l : List (Ms × Sl)} (h : MsL N W v l) (hb : ∀ g, N ≤ g → g < W.heap.size → W'.heap[g]? = W.heap[g]?) : MsL N W' v l :=
  ⟨h.own.blk (fun g e => hb g (h.own.row.lt g e).1 (h.own.row.lt g e).2), fun p hp => (h.each p hp).blk (fun g _ h1 h2 => hb g h1 h2), h.ap, h.pw⟩
/-- what a piece turns: nothing old but the stream, and what waits in it -/
structure Kt (w : World) (b : Nat) (a : Option Addr) (w' : World) (a' : Option Addr) : Prop where
  str : Below 0 w w'
  block : ∀ g, g < w.heap.size → g ≠ b → ¬ ob a = some g → w'.heap[g]? = w.heap[g]?
  now : ∀ g, ob a' = some g → ob a = some g ∨ w.heap.size ≤ g
theorem Kt.refl (w : World) (b : Nat) (a : Option Addr) : Kt w b a w a := ⟨Below.refl _ _, fun _ _ _ _ => rfl, fun g e => .inl e⟩
theorem Kt.trans {w w1 w2 : World} {b : Nat} {a a1 a2 : Option Addr} (h : Kt w b a w1 a1) (k : Kt w1 b a1 w2 a2) : Kt w b a w2 a2 := by
  refine ⟨h.str.trans k.str, fun g hg h1 h2 => (k.block g (Nat.lt_of_lt_of_le hg h.str.size) h1 ?_).trans (h.block g hg h1 h2), fun g e => ?_⟩
  · intro e
    rcases h.now g e with e2 | e2
    · exact h2 e2
    · omega
  · rcases k.now g e with e2 | e2
    · exact h.now g e2
    · exact .inr (Nat.le_trans h.str.size e2)
theorem Kt.kr {w w1 : World} {b : Nat} (a : Option Addr) {a1 : Option Addr} (h : Kr w b w1) (hn : ∀ g, ob a1 = some g → ob a = some g ∨ w.heap.size ≤ g) : Kt w b a w1 a1 := ⟨h.str, fun g hg h1 _ => h.block g hg h1, hn⟩
end Go.Proofs.Ytanboekdfdafmaa.Pv
