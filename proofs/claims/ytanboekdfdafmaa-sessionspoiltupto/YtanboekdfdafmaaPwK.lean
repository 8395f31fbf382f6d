/- What follows behind a message's sum: readBody of an open and of an update. -/
import Derived.Test.YtanboekdfdafmaaPwJ
namespace Go.Proofs.Ytanboekdfdafmaa.Pv
open Go.ChangeShapes Go.WideShapes Go.ChangeAt Go.RowKit Go.Joins Go.Proofs.Ytanboekdfdafmaa.PM Go.Proofs.Ytanboekdfdafmaa.Ask Go.Proofs.Ytanboekdfdafmaa.Ge
set_option linter.unusedVariables false

set_option maxRecDepth 100000 in
set_option maxHeartbeats 16000000 in
theorem read1 (va : Option Addr) (n cap : Nat) (xs : List Nat) (hbig : n ≤ 100000) (w : World) (h : Pce w.heap.size w va n cap xs) :
    Calls Try.prog 73 #[.int .i64 1, .slice va n cap] w (RbPost w (readB 1 xs)) := by
  have H : Hid (Pce w.heap.size w va n cap xs) := h
  have HL : Hid (xs.length = n) := h.p.len
  have hmf : ∀ (fn : Fn) (first cap : Array Value) (w : World), (Instr.makeFunc fn first cap).run Try.prog w = .ok (.func fn first cap) w := fun _ _ _ _ => rfl
  clear h
  go_enter_defers Try.func73, Try.ntmps73
  go_upto_region 4 with fail
  obtain ⟨W, hW⟩ : ∃ W, (((w.alloc (Obj.cells #[.int .i64 1, .int .i64 0, .int .i64 0, .int .i64 0, .int .i64 0, .slice none 0 0, .slice none 0 0, .int .u32 0, .int .i64 0, .slice none 0 0, .int .i64 0, .int .i64 0, .int .i64 0, .int .u32 0, .slice none 0 0, .slice none 0 0, .int .i64 0] 54)).alloc (Obj.cells #[.slice va n cap] 32)).alloc (Obj.cells #[.int .i64 0] 59)).alloc (Obj.cells #[.slice va n cap] 127) = W := ⟨_, rfl⟩
  obtain ⟨hs, hr, hz⟩ := rb_start 1 va n cap xs w W H.out hW
  rw [hW]
  obtain ⟨M, hM⟩ : ∃ M, w.heap.size = M := ⟨_, rfl⟩
  obtain ⟨bm, hbm⟩ : ∃ b, w.heap.size = b := ⟨_, rfl⟩
  rw [hbm] at hs hr ⊢
  obtain ⟨bb, hbb⟩ : ∃ b, bm + 1 = b := ⟨_, rfl⟩
  rw [hbb] at hs hr ⊢
  obtain ⟨be, hbe⟩ : ∃ b, bb + 1 = b := ⟨_, rfl⟩
  rw [hbe] at hs hr ⊢
  obtain ⟨br, hbr⟩ : ∃ b, be + 1 = b := ⟨_, rfl⟩
  rw [hbr] at hr ⊢
  obtain ⟨m, hm⟩ : ∃ m, ({ ms0 with kind := 1 } : Ms) = m := ⟨_, rfl⟩
  have HMM : Hid (({ ms0 with kind := 1 } : Ms) = m) := hm
  have hs2 : RbS w bm bb be W m sZ (.slice va n cap) (.int .i64 0) := by rw [← hm]; exact hs
  have HS : Hid (RbS w bm bb be W m sZ (.slice va n cap) (.int .i64 0)) := hs2
  have hr2 : Rdr w.heap.size W br va n cap xs := by rw [hbm]; exact hr
  have HR : Hid (Rdr w.heap.size W br va n cap xs) := hr2
  have d1 : ¬ bm = bb := by omega
  have d2 : ¬ bm = be := by omega
  have d3 : ¬ bb = be := by omega
  have d4 : ¬ bm = br := by omega
  have d5 : ¬ bb = br := by omega
  have d6 : ¬ be = br := by omega
  have k1 : w.heap.size ≤ bm := by omega
  have k2 : w.heap.size ≤ bb := by omega
  have k3 : w.heap.size ≤ be := by omega
  have k4 : w.heap.size ≤ br := by omega
  clear hW hs hr hz hs2 hr2 hbm hbb hbe hbr hM hm M
  by_cases h0 : 1 ≤ n
  · go_wp2_with fail
    refine (rnum_yes w.heap.size br va (n) cap (xs) 1 h0 (by decide) W HR.out).mono ?_
    rintro e W1 ⟨a1, c1, rfl, hr1, hk1⟩
    obtain ⟨q0, hq0⟩ : ∃ q, num ((xs).take 1) = q := ⟨_, rfl⟩
    rw [hq0]
    have HS1 : Hid (RbS w bm bb be W1 m sZ (.slice va n cap) (.int .i64 0)) := HS.out.kr hk1 d4 d5 d6 k4
    have HR1 : Hid (Rdr w.heap.size W1 br a1 (n - 1) c1 ((xs).drop 1)) := hr1
    have HT0 : Hid (num ((xs).take 1) = q0) := hq0
    clear hr1 hk1 hq0
    by_cases h1 : 4 ≤ n - 1
    · go_wp2_with fail
      refine (rnum_yes w.heap.size br a1 (n - 1) c1 (xs.drop 1) 4 h1 (by decide) W1 HR1.out).mono ?_
      rintro e W2 ⟨a2, c2, rfl, hr2, hk2⟩
      obtain ⟨q1, hq1⟩ : ∃ q, num ((xs.drop 1).take 4) = q := ⟨_, rfl⟩
      rw [hq1]
      have HS2 : Hid (RbS w bm bb be W2 m sZ (.slice va n cap) (.int .i64 0)) := HS1.out.kr hk2 d4 d5 d6 k4
      have HR2 : Hid (Rdr w.heap.size W2 br a2 (n - 1 - 4) c2 ((xs.drop 1).drop 4)) := hr2
      have HT1 : Hid (num ((xs.drop 1).take 4) = q1) := hq1
      clear hr2 hk2 hq1
      by_cases h2 : 2 ≤ n - 1 - 4
      · go_wp2_with fail
        refine (rnum_yes w.heap.size br a2 (n - 1 - 4) c2 ((xs.drop 1).drop 4) 2 h2 (by decide) W2 HR2.out).mono ?_
        rintro e W3 ⟨a3, c3, rfl, hr3, hk3⟩
        obtain ⟨q2, hq2⟩ : ∃ q, num (((xs.drop 1).drop 4).take 2) = q := ⟨_, rfl⟩
        rw [hq2]
        have HS3 : Hid (RbS w bm bb be W3 m sZ (.slice va n cap) (.int .i64 0)) := HS2.out.kr hk3 d4 d5 d6 k4
        have HR3 : Hid (Rdr w.heap.size W3 br a3 (n - 1 - 4 - 2) c3 (((xs.drop 1).drop 4).drop 2)) := hr3
        have HT2 : Hid (num (((xs.drop 1).drop 4).take 2) = q2) := hq2
        clear hr3 hk3 hq2
        by_cases h3 : 4 ≤ n - 1 - 4 - 2
        · go_wp2_with fail
          refine (rnum_yes w.heap.size br a3 (n - 1 - 4 - 2) c3 (((xs.drop 1).drop 4).drop 2) 4 h3 (by decide) W3 HR3.out).mono ?_
          rintro e W4 ⟨a4, c4, rfl, hr4, hk4⟩
          obtain ⟨q3, hq3⟩ : ∃ q, num ((((xs.drop 1).drop 4).drop 2).take 4) = q := ⟨_, rfl⟩
          rw [hq3]
          have HS4 : Hid (RbS w bm bb be W4 m sZ (.slice va n cap) (.int .i64 0)) := HS3.out.kr hk4 d4 d5 d6 k4
          have HR4 : Hid (Rdr w.heap.size W4 br a4 (n - 1 - 4 - 2 - 4) c4 ((((xs.drop 1).drop 4).drop 2).drop 4)) := hr4
          have HT3 : Hid (num ((((xs.drop 1).drop 4).drop 2).take 4) = q3) := hq3
          clear hr4 hk4 hq3
          obtain ⟨W5, hW5⟩ : ∃ W5, ((W4.setCell ⟨bm, 1, none⟩ (.int .i64 (q1 : Int))).setCell ⟨bm, 3, none⟩ (.int .i64 (q2 : Int))).setCell ⟨bm, 2, none⟩ (.int .i64 (q3 : Int)) = W5 := ⟨_, rfl⟩
          have HSE : Hid (RbS w bm bb be W5 { m with dom := (q1 : Int), hold := (q2 : Int), id := (q3 : Int) } sZ (.slice va n cap) (.int .i64 0)) := by
            rw [← hW5]
            have e1 := HS4.out.mset (m2 := { m with dom := (q1 : Int) }) (s2 := sZ) d1 d2 k1 1 (.int .i64 (q1 : Int)) (by simp [msL])
            have e2 := e1.mset (m2 := { m with dom := (q1 : Int), hold := (q2 : Int) }) (s2 := sZ) d1 d2 k1 3 (.int .i64 (q2 : Int)) (by simp [msL])
            exact e2.mset (m2 := { m with dom := (q1 : Int), hold := (q2 : Int), id := (q3 : Int) }) (s2 := sZ) d1 d2 k1 2 (.int .i64 (q3 : Int)) (by simp [msL])
          have g1 := HS4.out.mb.fro 1
          have g2 := HS4.out.mb.fro 2
          have g3 := HS4.out.mb.fro 3
          have y1 : W4.cell? ⟨bm, 1, none⟩ = some (.int .i64 m.dom) := HS4.out.mb.cell 1
          have y2 : W4.cell? ⟨bm, 2, none⟩ = some (.int .i64 m.id) := HS4.out.mb.cell 2
          have y3 : W4.cell? ⟨bm, 3, none⟩ = some (.int .i64 m.hold) := HS4.out.mb.cell 3
          obtain ⟨m2, hm2⟩ : ∃ m2, ({ m with dom := (q1 : Int), hold := (q2 : Int), id := (q3 : Int) } : Ms) = m2 := ⟨_, rfl⟩
          rw [hm2] at HSE
          have HQ : Hid (RbPost w (readB 1 xs) (.returned (.tuple #[msV m2 sZ, .slice va n cap, .int .i64 0])) W5.drew) := by
            show RbPost _ _ _ _
            have t1 := HT1.out
            have t2 := HT2.out
            have t3 := HT3.out
            rw [List.drop_drop] at t2
            rw [List.drop_drop, List.drop_drop] at t3
            have e1 : readB 1 xs = some (m2, xs) := by
              unfold readB
              rw [if_pos rfl, if_pos (by rw [HL.out]; omega), t1, t2, t3, ← hm2, ← HMM.out]
            rw [e1]
            have hb := HSE.out.drew.bel
            exact ⟨sZ, va, n, cap, rfl, H.out.p.bel hb, mo_zero _ _ _ (by rw [← hm2, ← HMM.out]; rfl) (by rw [← hm2, ← HMM.out]; rfl) (by rw [← hm2, ← HMM.out]; rfl), hb⟩
          have HW5 : Hid (((W4.setCell ⟨bm, 1, none⟩ (.int .i64 (q1 : Int))).setCell ⟨bm, 3, none⟩ (.int .i64 (q2 : Int))).setCell ⟨bm, 2, none⟩ (.int .i64 (q3 : Int)) = W5) := hW5
          clear hW5 hm2 HS HR HS1 HS2 HS3 HS4 HR1 HR2 HR3 HR4 HMM HT0 HT1 HT2 HT3
          go_upto_region 12 with fail
          rw [HW5.out]
          clear HW5 g1 g2 g3 y1 y2 y3
          have HSD : Hid (RbS w bm bb be W5.drew m2 sZ (.slice va n cap) (.int .i64 0)) := HSE.out.drew
          apply wp_meet
          case h1 =>
            refine wp_region_held_drew (S := fun W' => W' = W5.drew) (by kernel_rfl) rfl (fun hHeld => ?_)
            refine wpAnyH_take (i := 0) (v := msV m2 sZ) rfl (by kernel_rfl) (by kernel_rfl) (by kernel_rfl) (fun _ _ _ h => by cases h.1) (Or.inl ⟨by rfl, (fun W' hW' => by subst hW'; exact mload_run _ rfl rfl HSD.out.mb)⟩) rfl ?_
            try simp only [Act.put, List.getElem_toArray, List.getElem_cons_zero, List.setIfInBounds_toArray, List.set_cons_zero, List.set_cons_succ]
            refine wpAnyH_ready (rs := [1, 2]) (by kernel_rfl) (by simp) ?_
            refine AllReadyH.cons rfl (fun K hK => step_val (by rfl) (cload_run _ rfl rfl HSD.out.hb) (hK.out _ _ rfl (fun _ => ?_))) (AllReadyH.cons rfl (fun K hK => step_skip (by rfl) (mstore_run _ _ rfl rfl rfl HSD.out.mb) (hK.out _ _ rfl (fun _ => ?_))) AllReadyH.nil)
            case refine_1 =>
              try simp only [Act.put, List.getElem_toArray, List.getElem_cons_zero, List.getElem_cons_succ, List.setIfInBounds_toArray, List.set_cons_zero, List.set_cons_succ]
              refine wpAnyH_ready (rs := [2]) (by kernel_rfl) (by simp) ?_
              refine AllReadyH.cons rfl (fun K hK => step_skip (by rfl) (mstore_run _ _ rfl rfl rfl HSD.out.mb) (hK.out _ _ rfl (fun _ => ?_))) AllReadyH.nil
              try simp only [Act.put, List.getElem_toArray, List.getElem_cons_zero, List.getElem_cons_succ]
              refine wpAnyH_ready (rs := [3]) (by kernel_rfl) (by simp) ?_
              refine AllReadyH.cons rfl (fun K hK => step_skip (by rfl) (cstore_run _ _ rfl rfl rfl HSD.out.hb) (hK.out _ _ rfl (fun _ => ?_))) AllReadyH.nil
              try simp only [Act.put, List.getElem_toArray, List.getElem_cons_zero, List.getElem_cons_succ]
              refine wpAnyH_ready (rs := [4]) (by kernel_rfl) (by simp) ?_
              refine AllReadyH.cons rfl (fun K hK => step_skip (by rfl) (estore_run _ _ rfl rfl rfl HSD.out.he) (hK.out _ _ rfl (fun _ => ?_))) AllReadyH.nil
              try simp only [Act.put, List.getElem_toArray, List.getElem_cons_zero, List.getElem_cons_succ]
              refine wpAnyH_done (by kernel_rfl) ?_ _
              exact ⟨rfl, rfl, rfl⟩
            case refine_2 =>
              try simp only [Act.put, List.getElem_toArray, List.getElem_cons_zero, List.getElem_cons_succ]
              refine wpAnyH_ready (rs := [1]) (by kernel_rfl) (by simp) ?_
              refine AllReadyH.cons rfl (fun K hK => step_val (by rfl) (cload_run _ rfl rfl HSD.out.hb) (hK.out _ _ rfl (fun _ => ?_))) AllReadyH.nil
              try simp only [Act.put, List.getElem_toArray, List.getElem_cons_zero, List.getElem_cons_succ, List.setIfInBounds_toArray, List.set_cons_zero, List.set_cons_succ]
              refine wpAnyH_ready (rs := [3]) (by kernel_rfl) (by simp) ?_
              refine AllReadyH.cons rfl (fun K hK => step_skip (by rfl) (cstore_run _ _ rfl rfl rfl HSD.out.hb) (hK.out _ _ rfl (fun _ => ?_))) AllReadyH.nil
              try simp only [Act.put, List.getElem_toArray, List.getElem_cons_zero, List.getElem_cons_succ]
              refine wpAnyH_ready (rs := [4]) (by kernel_rfl) (by simp) ?_
              refine AllReadyH.cons rfl (fun K hK => step_skip (by rfl) (estore_run _ _ rfl rfl rfl HSD.out.he) (hK.out _ _ rfl (fun _ => ?_))) AllReadyH.nil
              try simp only [Act.put, List.getElem_toArray, List.getElem_cons_zero, List.getElem_cons_succ]
              refine wpAnyH_done (by kernel_rfl) ?_ _
              exact ⟨rfl, rfl, rfl⟩
          case h2 =>
            obtain ⟨wD, hwD⟩ : ∃ wD, W5.drew = wD := ⟨_, rfl⟩
            rw [hwD] at HSD HQ ⊢
            clear hwD HSE
            go_wp2_with fail
            refine leaves_cons (f := 77) (args := #[.pointer (some ⟨bm, 0, none⟩), .pointer (some ⟨bb, 0, none⟩), .pointer (some ⟨be, 0, none⟩)]) (by simp) (by simp [go_sem]) ?_
            refine (catch_idle ⟨bm, 0, none⟩ ⟨bb, 0, none⟩ ⟨be, 0, none⟩ _).mono ?_
            rintro e u' w'' ⟨rfl, rfl, hw⟩
            rw [hw]
            clear hw w''
            exact ⟨_, rb_res HSD.out rfl rfl rfl, HQ.out⟩
        · go_wp2_with fail
          refine (rnum_no w.heap.size br a3 (n - 1 - 4 - 2) c3 (((xs.drop 1).drop 4).drop 2) 4 (by omega) W3 HR3.out).mono ?_
          rintro e w9 ⟨rfl, hw9⟩
          rw [hw9]
          clear hw9 w9
          have HSX : Hid (RbS w bm bb be W3 m sZ (.slice va n cap) (.int .i64 0)) := HS3.out
          obtain ⟨Z, hZ, hsz⟩ := rb_zero HSX.out d1 d2 d3 k1 k2 k3
          have HSZ : Hid (RbS w bm bb be Z ms0 sZ (.slice none 0 0) (.int .i64 4)) := hsz
          have HCP := catch_pan bm bb be W3 Z m sZ (.slice va n cap) (.int .i64 0) HSX.out.mb HSX.out.hb HSX.out.he d1 d2 d3 hZ
          have HQ : Hid (RbPost w (readB 1 xs) (.returned (.tuple #[msV ms0 sZ, .slice none 0 0, .int .i64 4])) Z) := by
            show RbPost _ _ _ _
            rw [show readB 1 xs = none from by unfold readB; rw [if_pos rfl, if_neg (by rw [HL.out]; omega)]]
            exact ⟨rfl, hsz.bel⟩
          clear hZ hsz HSX
          unfold pan
          go_wp2_with fail
          refine leaves_cons (f := 77) (args := #[.pointer (some ⟨bm, 0, none⟩), .pointer (some ⟨bb, 0, none⟩), .pointer (some ⟨be, 0, none⟩)]) (by simp) (by simp [go_sem]) ?_
          refine HCP.mono ?_
          rintro e u' w'' ⟨rfl, rfl, hw⟩
          rw [hw]
          clear hw w''
          exact ⟨_, rb_res HSZ.out rfl rfl rfl, HQ.out⟩
      · go_wp2_with fail
        refine (rnum_no w.heap.size br a2 (n - 1 - 4) c2 ((xs.drop 1).drop 4) 2 (by omega) W2 HR2.out).mono ?_
        rintro e w9 ⟨rfl, hw9⟩
        rw [hw9]
        clear hw9 w9
        have HSX : Hid (RbS w bm bb be W2 m sZ (.slice va n cap) (.int .i64 0)) := HS2.out
        obtain ⟨Z, hZ, hsz⟩ := rb_zero HSX.out d1 d2 d3 k1 k2 k3
        have HSZ : Hid (RbS w bm bb be Z ms0 sZ (.slice none 0 0) (.int .i64 4)) := hsz
        have HCP := catch_pan bm bb be W2 Z m sZ (.slice va n cap) (.int .i64 0) HSX.out.mb HSX.out.hb HSX.out.he d1 d2 d3 hZ
        have HQ : Hid (RbPost w (readB 1 xs) (.returned (.tuple #[msV ms0 sZ, .slice none 0 0, .int .i64 4])) Z) := by
          show RbPost _ _ _ _
          rw [show readB 1 xs = none from by unfold readB; rw [if_pos rfl, if_neg (by rw [HL.out]; omega)]]
          exact ⟨rfl, hsz.bel⟩
        clear hZ hsz HSX
        unfold pan
        go_wp2_with fail
        refine leaves_cons (f := 77) (args := #[.pointer (some ⟨bm, 0, none⟩), .pointer (some ⟨bb, 0, none⟩), .pointer (some ⟨be, 0, none⟩)]) (by simp) (by simp [go_sem]) ?_
        refine HCP.mono ?_
        rintro e u' w'' ⟨rfl, rfl, hw⟩
        rw [hw]
        clear hw w''
        exact ⟨_, rb_res HSZ.out rfl rfl rfl, HQ.out⟩
    · go_wp2_with fail
      refine (rnum_no w.heap.size br a1 (n - 1) c1 (xs.drop 1) 4 (by omega) W1 HR1.out).mono ?_
      rintro e w9 ⟨rfl, hw9⟩
      rw [hw9]
      clear hw9 w9
      have HSX : Hid (RbS w bm bb be W1 m sZ (.slice va n cap) (.int .i64 0)) := HS1.out
      obtain ⟨Z, hZ, hsz⟩ := rb_zero HSX.out d1 d2 d3 k1 k2 k3
      have HSZ : Hid (RbS w bm bb be Z ms0 sZ (.slice none 0 0) (.int .i64 4)) := hsz
      have HCP := catch_pan bm bb be W1 Z m sZ (.slice va n cap) (.int .i64 0) HSX.out.mb HSX.out.hb HSX.out.he d1 d2 d3 hZ
      have HQ : Hid (RbPost w (readB 1 xs) (.returned (.tuple #[msV ms0 sZ, .slice none 0 0, .int .i64 4])) Z) := by
        show RbPost _ _ _ _
        rw [show readB 1 xs = none from by unfold readB; rw [if_pos rfl, if_neg (by rw [HL.out]; omega)]]
        exact ⟨rfl, hsz.bel⟩
      clear hZ hsz HSX
      unfold pan
      go_wp2_with fail
      refine leaves_cons (f := 77) (args := #[.pointer (some ⟨bm, 0, none⟩), .pointer (some ⟨bb, 0, none⟩), .pointer (some ⟨be, 0, none⟩)]) (by simp) (by simp [go_sem]) ?_
      refine HCP.mono ?_
      rintro e u' w'' ⟨rfl, rfl, hw⟩
      rw [hw]
      clear hw w''
      exact ⟨_, rb_res HSZ.out rfl rfl rfl, HQ.out⟩
  · go_wp2_with fail
    refine (rnum_no w.heap.size br va (n) cap (xs) 1 (by omega) W HR.out).mono ?_
    rintro e w9 ⟨rfl, hw9⟩
    rw [hw9]
    clear hw9 w9
    have HSX : Hid (RbS w bm bb be W m sZ (.slice va n cap) (.int .i64 0)) := HS.out
    obtain ⟨Z, hZ, hsz⟩ := rb_zero HSX.out d1 d2 d3 k1 k2 k3
    have HSZ : Hid (RbS w bm bb be Z ms0 sZ (.slice none 0 0) (.int .i64 4)) := hsz
    have HCP := catch_pan bm bb be W Z m sZ (.slice va n cap) (.int .i64 0) HSX.out.mb HSX.out.hb HSX.out.he d1 d2 d3 hZ
    have HQ : Hid (RbPost w (readB 1 xs) (.returned (.tuple #[msV ms0 sZ, .slice none 0 0, .int .i64 4])) Z) := by
      show RbPost _ _ _ _
      rw [show readB 1 xs = none from by unfold readB; rw [if_pos rfl, if_neg (by rw [HL.out]; omega)]]
      exact ⟨rfl, hsz.bel⟩
    clear hZ hsz HSX
    unfold pan
    go_wp2_with fail
    refine leaves_cons (f := 77) (args := #[.pointer (some ⟨bm, 0, none⟩), .pointer (some ⟨bb, 0, none⟩), .pointer (some ⟨be, 0, none⟩)]) (by simp) (by simp [go_sem]) ?_
    refine HCP.mono ?_
    rintro e u' w'' ⟨rfl, rfl, hw⟩
    rw [hw]
    clear hw w''
    exact ⟨_, rb_res HSZ.out rfl rfl rfl, HQ.out⟩
set_option maxRecDepth 100000 in
set_option maxHeartbeats 16000000 in
theorem read2 (va : Option Addr) (n cap : Nat) (xs : List Nat) (hbig : n ≤ 100000) (w : World) (h : Pce w.heap.size w va n cap xs) :
    Calls Try.prog 73 #[.int .i64 2, .slice va n cap] w (RbPost w (readB 2 xs)) := by
  have H : Hid (Pce w.heap.size w va n cap xs) := h
  have HL : Hid (xs.length = n) := h.p.len
  have hmf : ∀ (fn : Fn) (first cap : Array Value) (w : World), (Instr.makeFunc fn first cap).run Try.prog w = .ok (.func fn first cap) w := fun _ _ _ _ => rfl
  clear h
  go_enter_defers Try.func73, Try.ntmps73
  go_upto_region 4 with fail
  obtain ⟨W, hW⟩ : ∃ W, (((w.alloc (Obj.cells #[.int .i64 2, .int .i64 0, .int .i64 0, .int .i64 0, .int .i64 0, .slice none 0 0, .slice none 0 0, .int .u32 0, .int .i64 0, .slice none 0 0, .int .i64 0, .int .i64 0, .int .i64 0, .int .u32 0, .slice none 0 0, .slice none 0 0, .int .i64 0] 54)).alloc (Obj.cells #[.slice va n cap] 32)).alloc (Obj.cells #[.int .i64 0] 59)).alloc (Obj.cells #[.slice va n cap] 127) = W := ⟨_, rfl⟩
  obtain ⟨hs, hr, hz⟩ := rb_start 2 va n cap xs w W H.out hW
  rw [hW]
  obtain ⟨M, hM⟩ : ∃ M, w.heap.size = M := ⟨_, rfl⟩
  obtain ⟨bm, hbm⟩ : ∃ b, w.heap.size = b := ⟨_, rfl⟩
  rw [hbm] at hs hr ⊢
  obtain ⟨bb, hbb⟩ : ∃ b, bm + 1 = b := ⟨_, rfl⟩
  rw [hbb] at hs hr ⊢
  obtain ⟨be, hbe⟩ : ∃ b, bb + 1 = b := ⟨_, rfl⟩
  rw [hbe] at hs hr ⊢
  obtain ⟨br, hbr⟩ : ∃ b, be + 1 = b := ⟨_, rfl⟩
  rw [hbr] at hr ⊢
  obtain ⟨m, hm⟩ : ∃ m, ({ ms0 with kind := 2 } : Ms) = m := ⟨_, rfl⟩
  have HMM : Hid (({ ms0 with kind := 2 } : Ms) = m) := hm
  have hs2 : RbS w bm bb be W m sZ (.slice va n cap) (.int .i64 0) := by rw [← hm]; exact hs
  have HS : Hid (RbS w bm bb be W m sZ (.slice va n cap) (.int .i64 0)) := hs2
  have hr2 : Rdr w.heap.size W br va n cap xs := by rw [hbm]; exact hr
  have HR : Hid (Rdr w.heap.size W br va n cap xs) := hr2
  have d1 : ¬ bm = bb := by omega
  have d2 : ¬ bm = be := by omega
  have d3 : ¬ bb = be := by omega
  have d4 : ¬ bm = br := by omega
  have d5 : ¬ bb = br := by omega
  have d6 : ¬ be = br := by omega
  have k1 : w.heap.size ≤ bm := by omega
  have k2 : w.heap.size ≤ bb := by omega
  have k3 : w.heap.size ≤ be := by omega
  have k4 : w.heap.size ≤ br := by omega
  clear hW hs hr hz hs2 hr2 hbm hbb hbe hbr hM hm M
  have HME : Hid (m = msU) := by show _ = _; rw [← HMM.out]; rfl
  have hmu : MB bm msU sZ W := by rw [← HME.out]; exact HS.out.mb
  have HUP := update_any w.heap.size br bm va n cap xs hbig W HR.out hmu d4 k1
  have hsW := HS.out.bel.size
  clear hmu
  go_wp2_with fail
  refine HUP.mono ?_
  intro e W1 hpost
  clear HUP
  cases hx : rupd xs with
  | none =>
    rw [hx] at hpost
    obtain ⟨rfl, hk1, m1, s1, hm1⟩ := hpost
    have HX : Hid (rupd xs = none) := hx
    have HSX : Hid (RbS w bm bb be W1 m1 s1 (.slice va n cap) (.int .i64 0)) := ⟨hm1, (hk1.block bb (Array.getElem?_eq_some_iff.1 HS.out.hb).1 (fun e => d1 e.symm) d5).trans HS.out.hb, (hk1.block be (Array.getElem?_eq_some_iff.1 HS.out.he).1 (fun e => d2 e.symm) d6).trans HS.out.he, HS.out.bel.trans (hk1.below k1 k4 hsW)⟩
    clear hk1 hm1 hx
    obtain ⟨Z, hZ, hsz⟩ := rb_zero HSX.out d1 d2 d3 k1 k2 k3
    have HSZ : Hid (RbS w bm bb be Z ms0 sZ (.slice none 0 0) (.int .i64 4)) := hsz
    have HCP := catch_pan bm bb be W1 Z m1 s1 (.slice va n cap) (.int .i64 0) HSX.out.mb HSX.out.hb HSX.out.he d1 d2 d3 hZ
    have HQ : Hid (RbPost w (readB 2 xs) (.returned (.tuple #[msV ms0 sZ, .slice none 0 0, .int .i64 4])) Z) := by
      show RbPost _ _ _ _
      rw [show readB 2 xs = none from by unfold readB; rw [if_neg (by decide), if_pos rfl, HX.out]]
      exact ⟨rfl, hsz.bel⟩
    clear hZ hsz HSX
    unfold pan
    go_wp2_with fail
    refine leaves_cons (f := 77) (args := #[.pointer (some ⟨bm, 0, none⟩), .pointer (some ⟨bb, 0, none⟩), .pointer (some ⟨be, 0, none⟩)]) (by simp) (by simp [go_sem]) ?_
    refine HCP.mono ?_
    rintro e u' w'' ⟨rfl, rfl, hw⟩
    rw [hw]
    clear hw w''
    exact ⟨_, rb_res HSZ.out rfl rfl rfl, HQ.out⟩
  | some q =>
    obtain ⟨m1, body⟩ := q
    rw [hx] at hpost
    obtain ⟨s1, v1, rfl, ho1, hm1, hmo1, hk1⟩ := hpost
    have HX : Hid (rupd xs = some (m1, body)) := hx
    obtain ⟨va1, vc1, hv1, -⟩ := ho1.form
    subst hv1
    obtain ⟨bl, hbl⟩ : ∃ l, body.length = l := ⟨_, rfl⟩
    rw [hbl] at ho1 ⊢
    have hs1 : RbS w bm bb be W1 m1 s1 (.slice va n cap) (.int .i64 0) := ⟨hm1, (hk1.block bb (Array.getElem?_eq_some_iff.1 HS.out.hb).1 (fun e => d1 e.symm) d5).trans HS.out.hb, (hk1.block be (Array.getElem?_eq_some_iff.1 HS.out.he).1 (fun e => d2 e.symm) d6).trans HS.out.he, HS.out.bel.trans (hk1.below k1 k4 hsW)⟩
    obtain ⟨W2, hW2⟩ : ∃ W2, W1.setCell ⟨bb, 0, none⟩ (.slice va1 bl vc1) = W2 := ⟨_, rfl⟩
    have hk2 : Kr W1 bb W2 := by rw [← hW2]; exact Kr.set _ _ _ _
    have hbbW : bb < W.heap.size := (Array.getElem?_eq_some_iff.1 HS.out.hb).1
    have HSE : Hid (RbS w bm bb be W2 m1 s1 (.slice va1 bl vc1) (.int .i64 0)) := by
      refine ⟨hm1.blk (hk2.block bm hm1.lt d1), ?_, (hk2.block be (Array.getElem?_eq_some_iff.1 hs1.he).1 (fun e => d3 e.symm)).trans hs1.he, hs1.bel.trans (hk2.below k2 hs1.bel.size)⟩
      rw [← hW2, heap_setCell_same W1 bb 0 _ _ _ hs1.hb]
      rfl
    have hoW : OwnL E8 W.heap.size W2 (.slice va1 bl vc1) body := own_obk ho1 (fun g _ hg hl => hk2.block g hl (by omega))
    have hmW : MO W.heap.size W2 m1 s1 := hmo1.blk (fun g _ hg hl => hk2.block g hl (by omega))
    have HQ : Hid (RbPost w (readB 2 xs) (.returned (.tuple #[msV m1 s1, .slice va1 bl vc1, .int .i64 0])) W2.drew) := by
      show RbPost _ _ _ _
      have e1 : readB 2 xs = some (m1, body) := by unfold readB; rw [if_neg (by decide), if_pos rfl, HX.out]
      rw [e1]
      exact ⟨s1, va1, bl, vc1, rfl, OwnL.pc8 (hoW.bel (drew_bel W2)), (hmW.blk (fun g _ _ hl => (drew_bel W2).block g hl)).mono hsW, HSE.out.drew.bel⟩
    have gb : W1.frozen? ⟨bb, 0, none⟩ = false := by unfold World.frozen?; rw [hs1.hb]; rfl
    have cb : W1.cell? ⟨bb, 0, none⟩ = some (.slice va n cap) := by unfold World.cell?; rw [hs1.hb]; rfl
    have HW2 : Hid (W1.setCell ⟨bb, 0, none⟩ (.slice va1 bl vc1) = W2) := hW2
    clear ho1 hm1 hmo1 hk1 hx hs1 hW2 hk2 hoW hmW hbl HS HR HMM HME
    go_upto_region 12 with fail
    rw [HW2.out]
    clear HW2 gb cb
    have HSD : Hid (RbS w bm bb be W2.drew m1 s1 (.slice va1 bl vc1) (.int .i64 0)) := HSE.out.drew
    apply wp_meet
    case h1 =>
      refine wp_region_held_drew (S := fun W' => W' = W2.drew) (by kernel_rfl) rfl (fun hHeld => ?_)
      refine wpAnyH_take (i := 0) (v := msV m1 s1) rfl (by kernel_rfl) (by kernel_rfl) (by kernel_rfl) (fun _ _ _ h => by cases h.1) (Or.inl ⟨by rfl, (fun W' hW' => by subst hW'; exact mload_run _ rfl rfl HSD.out.mb)⟩) rfl ?_
      try simp only [Act.put, List.getElem_toArray, List.getElem_cons_zero, List.setIfInBounds_toArray, List.set_cons_zero, List.set_cons_succ]
      refine wpAnyH_ready (rs := [1, 2]) (by kernel_rfl) (by simp) ?_
      refine AllReadyH.cons rfl (fun K hK => step_val (by rfl) (cload_run _ rfl rfl HSD.out.hb) (hK.out _ _ rfl (fun _ => ?_))) (AllReadyH.cons rfl (fun K hK => step_skip (by rfl) (mstore_run _ _ rfl rfl rfl HSD.out.mb) (hK.out _ _ rfl (fun _ => ?_))) AllReadyH.nil)
      case refine_1 =>
        try simp only [Act.put, List.getElem_toArray, List.getElem_cons_zero, List.getElem_cons_succ, List.setIfInBounds_toArray, List.set_cons_zero, List.set_cons_succ]
        refine wpAnyH_ready (rs := [2]) (by kernel_rfl) (by simp) ?_
        refine AllReadyH.cons rfl (fun K hK => step_skip (by rfl) (mstore_run _ _ rfl rfl rfl HSD.out.mb) (hK.out _ _ rfl (fun _ => ?_))) AllReadyH.nil
        try simp only [Act.put, List.getElem_toArray, List.getElem_cons_zero, List.getElem_cons_succ]
        refine wpAnyH_ready (rs := [3]) (by kernel_rfl) (by simp) ?_
        refine AllReadyH.cons rfl (fun K hK => step_skip (by rfl) (cstore_run _ _ rfl rfl rfl HSD.out.hb) (hK.out _ _ rfl (fun _ => ?_))) AllReadyH.nil
        try simp only [Act.put, List.getElem_toArray, List.getElem_cons_zero, List.getElem_cons_succ]
        refine wpAnyH_ready (rs := [4]) (by kernel_rfl) (by simp) ?_
        refine AllReadyH.cons rfl (fun K hK => step_skip (by rfl) (estore_run _ _ rfl rfl rfl HSD.out.he) (hK.out _ _ rfl (fun _ => ?_))) AllReadyH.nil
        try simp only [Act.put, List.getElem_toArray, List.getElem_cons_zero, List.getElem_cons_succ]
        refine wpAnyH_done (by kernel_rfl) ?_ _
        exact ⟨rfl, rfl, rfl⟩
      case refine_2 =>
        try simp only [Act.put, List.getElem_toArray, List.getElem_cons_zero, List.getElem_cons_succ]
        refine wpAnyH_ready (rs := [1]) (by kernel_rfl) (by simp) ?_
        refine AllReadyH.cons rfl (fun K hK => step_val (by rfl) (cload_run _ rfl rfl HSD.out.hb) (hK.out _ _ rfl (fun _ => ?_))) AllReadyH.nil
        try simp only [Act.put, List.getElem_toArray, List.getElem_cons_zero, List.getElem_cons_succ, List.setIfInBounds_toArray, List.set_cons_zero, List.set_cons_succ]
        refine wpAnyH_ready (rs := [3]) (by kernel_rfl) (by simp) ?_
        refine AllReadyH.cons rfl (fun K hK => step_skip (by rfl) (cstore_run _ _ rfl rfl rfl HSD.out.hb) (hK.out _ _ rfl (fun _ => ?_))) AllReadyH.nil
        try simp only [Act.put, List.getElem_toArray, List.getElem_cons_zero, List.getElem_cons_succ]
        refine wpAnyH_ready (rs := [4]) (by kernel_rfl) (by simp) ?_
        refine AllReadyH.cons rfl (fun K hK => step_skip (by rfl) (estore_run _ _ rfl rfl rfl HSD.out.he) (hK.out _ _ rfl (fun _ => ?_))) AllReadyH.nil
        try simp only [Act.put, List.getElem_toArray, List.getElem_cons_zero, List.getElem_cons_succ]
        refine wpAnyH_done (by kernel_rfl) ?_ _
        exact ⟨rfl, rfl, rfl⟩
    case h2 =>
      obtain ⟨wD, hwD⟩ : ∃ wD, W2.drew = wD := ⟨_, rfl⟩
      rw [hwD] at HSD HQ ⊢
      clear hwD HSE
      go_wp2_with fail
      refine leaves_cons (f := 77) (args := #[.pointer (some ⟨bm, 0, none⟩), .pointer (some ⟨bb, 0, none⟩), .pointer (some ⟨be, 0, none⟩)]) (by simp) (by simp [go_sem]) ?_
      refine (catch_idle ⟨bm, 0, none⟩ ⟨bb, 0, none⟩ ⟨be, 0, none⟩ _).mono ?_
      rintro e u' w'' ⟨rfl, rfl, hw⟩
      rw [hw]
      clear hw w''
      exact ⟨_, rb_res HSD.out rfl rfl rfl, HQ.out⟩
theorem read_any (k : Nat) (hk : 1 ≤ k ∧ k ≤ 4) (va : Option Addr) (n cap : Nat) (xs : List Nat) (hbig : n ≤ 100000) (w : World) (h : Pce w.heap.size w va n cap xs) :
    Calls Try.prog 73 #[.int .i64 (k : Int), .slice va n cap] w (RbPost w (readB k xs)) := by
  have h4 : k = 1 ∨ k = 2 ∨ k = 3 ∨ k = 4 := by omega
  rcases h4 with rfl | rfl | rfl | rfl
  · exact read1 va n cap xs hbig w h
  · exact read2 va n cap xs hbig w h
  · exact read3 va n cap xs hbig w h
  · exact read4 va n cap xs hbig w h
end Go.Proofs.Ytanboekdfdafmaa.Pv
