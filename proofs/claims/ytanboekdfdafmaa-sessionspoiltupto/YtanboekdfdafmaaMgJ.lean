/- Sessions: a message is heard. Sessions: Start, Tick. Sessions: Tell, State, New. -/
import Derived.Test.YtanboekdfdafmaaMgH
import Derived.Test.YtanboekdfdafmaaMgI
namespace Go.Proofs.Ytanboekdfdafmaa.Pv
open Go.ChangeShapes Go.WideShapes Go.ChangeAt Go.RowKit Go.Joins Go.Deep Go.Proofs.Ytanboekdfdafmaa.PM Go.Proofs.Ytanboekdfdafmaa.Ask Go.Proofs.Ytanboekdfdafmaa.Ge
set_option linter.unusedVariables false
set_option linter.unusedSimpArgs false

theorem Kf.weak {W W' : World} {F F' : Nat → Prop} (sl : Sl) (h : Kf W W' F F') : Kf W W' F (fun g => F' g ∧ ¬ Mown sl g) ∧ (∀ g, F' g → F g ∨ W.heap.size ≤ g ∨ Mown sl g) :=
  ⟨⟨h.str, h.blk, fun g hg => h.now g hg.1⟩, fun g hg => (h.now g hg).imp id .inl⟩
theorem evbuild_run {o : Oper} {ρ : Operand → Value} {W : World} (x : Operand) (ho : o.op = .build 70 #[(0, .const (.int .i64 3)), (4, x)]) {m : Ms} {sl : Sl} (hc : ρ (.const (.int .i64 3)) = .int .i64 3) (hx : ρ x = .agg (msL m sl).toArray) : (execOp ρ o).run Try.prog W = .ok (.value (.agg (evL ⟨3, 0, 0, 0, m⟩ sl).toArray)) W := by
  unfold msL at hx
  unfold execOp
  rw [ho]
  simp [go_sem, hx, hc, evL, msL]
theorem list_evbuild {ops : Array Oper} {rest : List Oper} {o : Oper} {ac : Act} {Q : Exit → Act → World → Prop} {W : World} (hgd : o.guard = none) (x : Operand) (ho : o.op = .build 70 #[(0, .const (.int .i64 3)), (4, x)]) {m : Ms} {sl : Sl} (hx : ac.eval x = .agg (msL m sl).toArray)
    (k : wpList Try.prog ops Q rest (ac.put o.dst (.agg (evL ⟨3, 0, 0, 0, m⟩ sl).toArray)) W) : wpList Try.prog ops Q (o :: rest) ac W := by
  refine wpList_plain hgd fun K hK => ?_
  unfold Oper.wp
  rw [evbuild_run x ho rfl hx]
  exact hK _ _ k
/-! the walks -/
set_option maxRecDepth 100000 in
set_option maxHeartbeats 8000000 in
theorem hear_any (M b bo : Nat) (s : Se) (o : Ou) (F : Nat → Prop) (m : Ms) (sl : Sl) (w : World) (h : SO M w b s bo o F) (hM : M ≤ w.heap.size) (hs0 : ¬ s.state = 0) (hm : -9223372036854775808 ≤ m.hold ∧ m.hold < 9223372036854775808) (hmo : MO M w m sl) (hap : ∀ g, Mown sl g → ¬ F g) (hlb : o.b.length ≤ 1000000000) (hle : o.ev.length ≤ 100000000) (s' : Se) (o' : Ou) (hP : hearP s o m = (s', o')) :
    Calls Try.prog 30 #[.pointer (some ⟨b, 0, none⟩), .pointer (some ⟨bo, 0, none⟩), msV m sl] w fun en w' => (∃ u, en = .returned u) ∧ ∃ F', SO M w' b s' bo o' F' ∧ Kf w w' F (fun g => F' g ∧ ¬ Mown sl g) ∧ (∀ g, F' g → F g ∨ w.heap.size ≤ g ∨ Mown sl g) := by
  have HSO : Hid (SO M w b s bo o F) := h
  have HMM : Hid (M ≤ w.heap.size) := hM
  have HP : Hid (hearP s o m = (s', o')) := hP
  have HS0 : Hid (¬ s.state = 0) := hs0
  have HMO : Hid (MO M w m sl) := hmo
  have HAP : Hid (∀ g, Mown sl g → ¬ F g) := hap
  clear h hM hP hs0 hmo hap
  go_enter Try.func30, Try.ntmps30
  go_wp2_with (refine list_sbox PmK rfl _ rfl (cs := msL m sl) rfl ?_)
  intro w5 hb5 hbl5 hz5
  obtain ⟨be, hbe⟩ : ∃ y, w.heap.size = y := ⟨_, rfl⟩
  have HX5 : Hid (SB PmK be (msL m sl) w5) := by rw [← hbe]; exact hb5.out
  have HSO5 : Hid (SO M w5 b s bo o F) := HSO.out.bel hbl5.out
  have HKF5 : Hid (Kf w w5 F F) := Kf.bel F hbl5.out
  have HM5 : Hid (M ≤ w5.heap.size) := Nat.le_trans HMM.out hbl5.out.size
  have HMO5 : Hid (MO M w5 m sl) := HMO.out.blk (fun g _ _ hl => hbl5.out.block g hl)
  have HBE : Hid (¬ F be) := fun e => by have := HSO.out.lt _ e; omega
  have HBN : Hid (be ≠ b) := fun e => HBE.out (e ▸ HSO.out.out)
  rw [hbe]
  clear hb5 hbl5 hz5 hbe HSO
  obtain ⟨p5, hp5⟩ := HSO5.out.cells
  have HB5 : Hid (SB SsK b (ssL s p5) w5) := hp5
  have m0 : w5.cell? ⟨be, 0, none⟩ = some (.int .i64 m.kind) := HX5.out.cell 0
  have c5 : w5.cell? ⟨b, 5, none⟩ = some (.int .i64 s.state) := hp5.cell 5
  clear hp5
  by_cases k4 : m.kind = 4
  · rw [k4] at m0
    have HEN := end_any M b bo s o F 7 w5 HSO5.out HM5.out hlb hle s' o' (by rw [← HP.out]; unfold hearP; rw [if_pos k4])
    go_wp2_with fail
    refine HEN.mono ?_
    rintro en wZ ⟨⟨u, rfl⟩, F8, hs8, hk8⟩
    have HR : Hid (∃ F', SO M wZ b s' bo o' F' ∧ Kf w wZ F (fun g => F' g ∧ ¬ Mown sl g) ∧ (∀ g, F' g → F g ∨ w.heap.size ≤ g ∨ Mown sl g)) := ⟨F8, hs8, (HKF5.out.trans hk8).weak sl⟩
    clear HEN hs8 hk8
    go_wp2_with fail
    go_end0
    exact ⟨⟨_, rfl⟩, HR.out⟩
  · have k4b : (m.kind == 4) = false := by simpa using k4
    have K4 : Hid (¬ m.kind = 4) := k4
    clear k4
    by_cases e1 : s.state = 1
    · rw [e1] at c5
      have E1 : Hid (s.state = 1) := e1
      clear e1
      by_cases k1 : m.kind = 1
      · rw [k1] at m0
        have K1 : Hid (m.kind = 1) := k1
        clear k1
        have HEN := open_any M b bo s o F m sl w5 HSO5.out HM5.out HS0.out hm hlb hle s' o' (by rw [← HP.out]; unfold hearP; rw [if_neg K4.out, if_pos ⟨E1.out, K1.out⟩])
        go_wp2_with (refine list_sload PmK rfl _ rfl (b := be) (cs := msL m sl) rfl HX5.out rfl ?_)
        refine HEN.mono ?_
        rintro en wZ ⟨⟨u, rfl⟩, F8, hs8, hk8⟩
        have HR : Hid (∃ F', SO M wZ b s' bo o' F' ∧ Kf w wZ F (fun g => F' g ∧ ¬ Mown sl g) ∧ (∀ g, F' g → F g ∨ w.heap.size ≤ g ∨ Mown sl g)) := ⟨F8, hs8, (HKF5.out.trans hk8).weak sl⟩
        clear HEN hs8 hk8
        go_wp2_with fail
        go_end0
        exact ⟨⟨_, rfl⟩, HR.out⟩
      · have k1b : (m.kind == 1) = false := by simpa using k1
        have K1 : Hid (¬ m.kind = 1) := k1
        clear k1
        have HEN := end_any M b bo s o F 5 w5 HSO5.out HM5.out hlb hle s' o' (by rw [← HP.out]; unfold hearP; rw [if_neg K4.out, if_neg (fun c => K1.out c.2), if_neg (fun c => absurd c.1 (by rw [E1.out]; decide)), if_neg (fun c => absurd c.1 (by rw [E1.out]; decide)), if_neg (fun c => absurd c.1 (by rw [E1.out]; decide))])
        go_wp2_with fail
        refine HEN.mono ?_
        rintro en wZ ⟨⟨u, rfl⟩, F8, hs8, hk8⟩
        have HR : Hid (∃ F', SO M wZ b s' bo o' F' ∧ Kf w wZ F (fun g => F' g ∧ ¬ Mown sl g) ∧ (∀ g, F' g → F g ∨ w.heap.size ≤ g ∨ Mown sl g)) := ⟨F8, hs8, (HKF5.out.trans hk8).weak sl⟩
        clear HEN hs8 hk8
        go_wp2_with fail
        go_end0
        exact ⟨⟨_, rfl⟩, HR.out⟩
    · have e1b : (s.state == 1) = false := by simpa using e1
      have E1 : Hid (¬ s.state = 1) := e1
      clear e1
      by_cases e2 : s.state = 2
      · rw [e2] at c5
        have E2 : Hid (s.state = 2) := e2
        clear e2
        by_cases k3 : m.kind = 3
        · rw [k3] at m0
          have K3 : Hid (m.kind = 3) := k3
          clear k3
          have f5 : w5.frozen? ⟨b, 5, none⟩ = false := HB5.out.fro 5
          have HB6 : Hid (SB SsK b (ssL { s with state := 3 } p5) (w5.setCell ⟨b, 5, none⟩ (.int .i64 3))) := HB5.out.set 5 _ rfl
          have HT6 : Hid (SO M (w5.setCell ⟨b, 5, none⟩ (.int .i64 3)) b { s with state := 3 } bo o F ∧ Kf w5 (w5.setCell ⟨b, 5, none⟩ (.int .i64 3)) F F) := SO.turn HSO5.out (Ko.set _ _ _ _) ⟨p5, HB5.out, HB6.out⟩ ⟨(fun e => absurd e (by show ¬ (3 : Int) = 0; decide)), (fun e => absurd e HS0.out)⟩ ⟨rfl, rfl⟩ HSO5.out.rg HSO5.out.wt
          go_wp2_with fail
          obtain ⟨w6, hw6⟩ : ∃ y, w5.setCell ⟨b, 5, none⟩ (.int .i64 3) = y := ⟨_, rfl⟩
          rw [hw6] at HB6 HT6 ⊢
          have c10 : w6.cell? ⟨b, 10, none⟩ = some (.int .i64 s.other) := HB6.out.cell 10
          have c9 : w6.cell? ⟨b, 9, none⟩ = some (.int .i64 s.wait) := HB6.out.cell 9
          have HM6 : Hid (M ≤ w6.heap.size) := Nat.le_trans HM5.out HT6.out.2.str.size
          clear hw6 c5 f5
          go_still_tail 12, (by kernel_rfl)
          obtain ⟨w7, hw7⟩ : ∃ y, w6.drew = y := ⟨_, rfl⟩
          have HS7 : Hid (SO M w7 b { s with state := 3 } bo o F) := by rw [← hw7]; exact HT6.out.1.bel (drew_bel w6)
          have HK7 : Hid (Kf w w7 F F) := by rw [← hw7]; exact (HKF5.out.trans HT6.out.2).trans (Kf.bel _ (drew_bel w6))
          have HM7 : Hid (M ≤ w7.heap.size) := Nat.le_trans HMM.out HK7.out.str.size
          have HEN := tell_any M b bo { s with state := 3 } o F ⟨1, s.other, s.wait, 0, ms0⟩ sZ w7 HS7.out HM7.out (mo_zero M w7 ms0 rfl rfl rfl) (fun g h => absurd h (own_none g)) hle
          have hq : tellP o ⟨1, s.other, s.wait, 0, ms0⟩ = o' ∧ { s with state := 3 } = s' := by
            have h5 := HP.out
            unfold hearP at h5
            rw [if_neg K4.out, if_neg (fun c => E1.out c.1), if_pos ⟨E2.out, K3.out⟩] at h5
            cases h5
            exact ⟨rfl, rfl⟩
          rw [hq.1, hq.2] at HEN
          change wpList _ _ _ _ _ (World.drew w6)
          have c10' : w7.cell? ⟨b, 10, none⟩ = some (.int .i64 s.other) := by rw [← hw7]; exact c10
          have c9' : w7.cell? ⟨b, 9, none⟩ = some (.int .i64 s.wait) := by rw [← hw7]; exact c9
          rw [hw7]
          clear hq hw7 c9 c10
          go_wp2_with fail
          refine HEN.mono ?_
          rintro en wZ ⟨⟨u, rfl⟩, F8, hs8, hk8, -⟩
          have HR : Hid (∃ F', SO M wZ b s' bo o' F' ∧ Kf w wZ F (fun g => F' g ∧ ¬ Mown sl g) ∧ (∀ g, F' g → F g ∨ w.heap.size ≤ g ∨ Mown sl g)) := ⟨F8, hs8, (HK7.out.trans (F2 := F8) ⟨hk8.str, hk8.blk, fun g hg => hk8.now g ⟨hg, own_none g⟩⟩).weak sl⟩
          clear HEN hs8 hk8
          go_wp2_with fail
          go_end0
          exact ⟨⟨_, rfl⟩, HR.out⟩
        · have k3b : (m.kind == 3) = false := by simpa using k3
          have K3 : Hid (¬ m.kind = 3) := k3
          clear k3
          have HEN := end_any M b bo s o F 5 w5 HSO5.out HM5.out hlb hle s' o' (by rw [← HP.out]; unfold hearP; rw [if_neg K4.out, if_neg (fun c => E1.out c.1), if_neg (fun c => K3.out c.2), if_neg (fun c => absurd c.1 (by rw [E2.out]; decide)), if_neg (fun c => absurd c.1 (by rw [E2.out]; decide))])
          go_wp2_with fail
          refine HEN.mono ?_
          rintro en wZ ⟨⟨u, rfl⟩, F8, hs8, hk8⟩
          have HR : Hid (∃ F', SO M wZ b s' bo o' F' ∧ Kf w wZ F (fun g => F' g ∧ ¬ Mown sl g) ∧ (∀ g, F' g → F g ∨ w.heap.size ≤ g ∨ Mown sl g)) := ⟨F8, hs8, (HKF5.out.trans hk8).weak sl⟩
          clear HEN hs8 hk8
          go_wp2_with fail
          go_end0
          exact ⟨⟨_, rfl⟩, HR.out⟩
      · have e2b : (s.state == 2) = false := by simpa using e2
        have E2 : Hid (¬ s.state = 2) := e2
        clear e2
        by_cases e3 : s.state = 3
        · rw [e3] at c5
          have E3 : Hid (s.state = 3) := e3
          clear e3
          by_cases k2 : m.kind = 2
          · rw [k2] at m0
            have K2 : Hid (m.kind = 2) := k2
            clear k2
            have HEN := tell_any M b bo s o F ⟨3, 0, 0, 0, m⟩ sl w5 HSO5.out HM5.out HMO5.out HAP.out hle
            have hq : tellP o ⟨3, 0, 0, 0, m⟩ = o' ∧ s = s' := by
              have h5 := HP.out
              unfold hearP at h5
              rw [if_neg K4.out, if_neg (fun c => E1.out c.1), if_neg (fun c => E2.out c.1), if_pos ⟨E3.out, K2.out⟩] at h5
              cases h5
              exact ⟨rfl, rfl⟩
            obtain ⟨hq1, rfl⟩ := hq
            rw [hq1] at HEN
            clear hq1
            go_wp2_with (first | (refine list_sload PmK rfl _ rfl (b := be) (cs := msL m sl) rfl HX5.out rfl ?_) | (refine list_evbuild rfl _ rfl (m := m) (sl := sl) rfl ?_))
            refine HEN.mono ?_
            rintro en wZ ⟨⟨u, rfl⟩, F8, hs8, hk8, hf8⟩
            have HR : Hid (∃ F', SO M wZ b s bo o' F' ∧ Kf w wZ F (fun g => F' g ∧ ¬ Mown sl g) ∧ (∀ g, F' g → F g ∨ w.heap.size ≤ g ∨ Mown sl g)) := ⟨F8, hs8, HKF5.out.trans hk8, fun g hg => (hf8 g hg).imp id (fun e => e.imp (fun e2 => Nat.le_trans HKF5.out.str.size e2) id)⟩
            clear HEN hs8 hk8 hf8
            go_wp2_with fail
            go_end0
            exact ⟨⟨_, rfl⟩, HR.out⟩
          · have k2b : (m.kind == 2) = false := by simpa using k2
            have K2 : Hid (¬ m.kind = 2) := k2
            clear k2
            by_cases k3 : m.kind = 3
            · rw [k3] at m0
              have K3 : Hid (m.kind = 3) := k3
              clear k3
              have hq : o = o' ∧ s = s' := by
                have h5 := HP.out
                unfold hearP at h5
                rw [if_neg K4.out, if_neg (fun c => E1.out c.1), if_neg (fun c => E2.out c.1), if_neg (fun c => K2.out c.2), if_pos ⟨E3.out, K3.out⟩] at h5
                cases h5
                exact ⟨rfl, rfl⟩
              obtain ⟨rfl, rfl⟩ := hq
              go_wp2_with fail
              go_end0
              exact ⟨⟨_, rfl⟩, F, HSO5.out, HKF5.out.weak sl⟩
            · have k3b : (m.kind == 3) = false := by simpa using k3
              have K3 : Hid (¬ m.kind = 3) := k3
              clear k3
              have HEN := end_any M b bo s o F 5 w5 HSO5.out HM5.out hlb hle s' o' (by rw [← HP.out]; unfold hearP; rw [if_neg K4.out, if_neg (fun c => E1.out c.1), if_neg (fun c => E2.out c.1), if_neg (fun c => K2.out c.2), if_neg (fun c => K3.out c.2)])
              go_wp2_with fail
              refine HEN.mono ?_
              rintro en wZ ⟨⟨u, rfl⟩, F8, hs8, hk8⟩
              have HR : Hid (∃ F', SO M wZ b s' bo o' F' ∧ Kf w wZ F (fun g => F' g ∧ ¬ Mown sl g) ∧ (∀ g, F' g → F g ∨ w.heap.size ≤ g ∨ Mown sl g)) := ⟨F8, hs8, (HKF5.out.trans hk8).weak sl⟩
              clear HEN hs8 hk8
              go_wp2_with fail
              go_end0
              exact ⟨⟨_, rfl⟩, HR.out⟩
        · have e3b : (s.state == 3) = false := by simpa using e3
          have E3 : Hid (¬ s.state = 3) := e3
          clear e3
          have HEN := end_any M b bo s o F 5 w5 HSO5.out HM5.out hlb hle s' o' (by rw [← HP.out]; unfold hearP; rw [if_neg K4.out, if_neg (fun c => E1.out c.1), if_neg (fun c => E2.out c.1), if_neg (fun c => E3.out c.1), if_neg (fun c => E3.out c.1)])
          go_wp2_with fail
          refine HEN.mono ?_
          rintro en wZ ⟨⟨u, rfl⟩, F8, hs8, hk8⟩
          have HR : Hid (∃ F', SO M wZ b s' bo o' F' ∧ Kf w wZ F (fun g => F' g ∧ ¬ Mown sl g) ∧ (∀ g, F' g → F g ∨ w.heap.size ≤ g ∨ Mown sl g)) := ⟨F8, hs8, (HKF5.out.trans hk8).weak sl⟩
          clear HEN hs8 hk8
          go_wp2_with fail
          go_end0
          exact ⟨⟨_, rfl⟩, HR.out⟩
end Go.Proofs.Ytanboekdfdafmaa.Pv
namespace Go.Proofs.Ytanboekdfdafmaa.Pv
open Go.ChangeShapes Go.WideShapes Go.ChangeAt Go.RowKit Go.Joins Go.Deep Go.Proofs.Ytanboekdfdafmaa.PM Go.Proofs.Ytanboekdfdafmaa.Ask Go.Proofs.Ytanboekdfdafmaa.Ge
set_option linter.unusedVariables false
set_option linter.unusedSimpArgs false

theorem sendP_len (s : Se) (o : Ou) (m : Ms) : (sendP s o m).2.b.length ≤ o.b.length + 1024 ∧ (sendP s o m).2.ev.length ≤ o.ev.length := by
  unfold sendP
  split
  · refine ⟨?_, Nat.le_refl _⟩
    rw [List.length_append]
    have := @enc_most m
    omega
  · exact ⟨Nat.le_add_right _ _, Nat.le_refl _⟩
theorem endP_len (s : Se) (o : Ou) (c : Int) : (endP s o c).2.b.length ≤ o.b.length + 1024 ∧ (endP s o c).2.ev.length ≤ o.ev.length + 1 := by
  have h1 := end1_ev s o c
  unfold endP end2
  dsimp only
  split
  · refine ⟨h1.2.2, ?_⟩
    show ((end1 s o c).2.ev ++ _).length ≤ _
    rw [List.length_append, h1.1]
    exact Nat.le_refl _
  · exact ⟨h1.2.2, by rw [h1.1]; omega⟩
theorem moveP_len (s : Se) (now : Int) : (moveP s now).2.b.length ≤ 1024 ∧ (moveP s now).2.ev.length ≤ 1 := by
  unfold moveP dueP
  split
  · exact ⟨Nat.zero_le _, Nat.zero_le _⟩
  · split
    · have := endP_len (clk s now) ⟨[], []⟩ 4
      simpa using this
    · split
      · have := sendP_len (clk s now) ⟨[], []⟩ alv
        refine ⟨by simpa using this.1, ?_⟩
        have h2 : (sendP (clk s now) ⟨[], []⟩ alv).2.ev.length ≤ 0 := by simpa using this.2
        omega
      · exact ⟨Nat.zero_le _, Nat.zero_le _⟩
/-- what a call of moveTo has answered is boxed -/
theorem SO.boxed {w w1 w2 w3 w4 : World} {b rb bo : Nat} {s : Se} {o : Ou} {st st1 : Sp} {vb ve : Value} {l : List (Ev × Sl)} {z : List Value} (hlt : ∀ g, fpS b st g → g < w.heap.size) (hrb : w.heap.size = rb) (hb1 : Below w.heap.size w w1) (hx1 : SB OutK rb z w1) (h1 : Ses w2 b s st1) (h2 : OutV w1.heap.size w2 o vb ve l) (h3 : ∀ g, fpS b st1 g → ¬ fpV vb ve l g) (hk : Kf w1 w2 (fpS b st) (fpS b st1)) (hb3 : Below w2.heap.size w2 w3) (hbo : w2.heap.size = bo) (hk4 : Ko w3 bo w4) (hx4 : SB OutK bo [vb, ve] w4) :
    SO w.heap.size w4 b s bo o (fun g => fpS b st1 g ∨ fpO bo vb ve l g) ∧ Kf w w4 (fpS b st) (fun g => fpS b st1 g ∨ fpO bo vb ve l g) ∧ ¬ (fpS b st1 rb ∨ fpO bo vb ve l rb) ∧ SB OutK rb z w4 := by
  have l1 := hb1.size
  have l2 := hk.str.size
  have l3 := hb3.size
  have lr := hx1.lt
  have hbl : ∀ g, g < w2.heap.size → w4.heap[g]? = w2.heap[g]? := fun g hg => (hk4.block g (by omega)).trans (hb3.block g hg)
  have hV : ∀ g, fpV vb ve l g → w1.heap.size ≤ g ∧ g < w2.heap.size := fun g hg => by
    rcases hg with e | e | ⟨p, hp, hm⟩
    · exact h2.bys.row.lt g e
    · exact h2.ev.own.row.lt g e
    · exact (h2.ev.each p hp).rng g hm
  have hev : EvL w.heap.size w4 ve l := by
    have h5 := h2.ev.blk (W' := w4) (fun g e hl => hbl g hl)
    exact ⟨h5.own.mono l1, fun p hp => (h5.each p hp).mono l1, h5.ap, h5.pw⟩
  refine ⟨⟨st1, vb, ve, l, h1.blk (fun g _ hl => hbl g hl), ⟨hx4, (h2.bys.blk (fun g e => hbl g (h2.bys.row.lt g e).2)).mono l1, hev, h2.eq, by omega, fun g e => ⟨fun e2 => ?_, (h2.a1 g e).1, (h2.a1 g e).2⟩, fun g e e2 => ?_, fun p hp hm => ?_⟩, fun g hg ho => ?_, fun g => Iff.rfl⟩, ⟨?_, fun g hg hf => ?_, fun g hg => ?_⟩, ?_, hx1.blk ?_⟩
  · have := (hV g (.inl e)).2; omega
  · have := (hV g (.inr (.inl e))).2; omega
  · have := (hV bo (.inr (.inr ⟨p, hp, hm⟩))).2; omega
  · rcases ho with e | e
    · have := h1.lt g hg; omega
    · exact h3 g hg e
  · exact (((hb1.mono (Nat.zero_le _)).trans hk.str).trans (hb3.mono (Nat.zero_le _))).trans hk4.str
  · exact ((hbl g (by omega)).trans (hk.blk g (by omega) hf)).trans (hb1.block g hg)
  · rcases hg with hg | hg
    · rcases hk.now g hg with e | e
      · exact .inl e
      · exact .inr (by omega)
    · rcases hg with e | e
      · exact .inr (by omega)
      · exact .inr (by have := (hV g e).1; omega)
  · rintro (e | e | e)
    · rcases hk.now rb e with e2 | e2
      · have := hlt rb e2; omega
      · omega
    · omega
    · have := (hV rb e).1; omega
  · refine (hbl rb (by omega)).trans (hk.blk rb lr (fun e => ?_))
    have := hlt rb e
    omega
/-- the talk begins -/
theorem SO.begun {M : Nat} {w w5 w6 w7 : World} {b bo bs : Nat} {s : Se} {o : Ou} {F : Nat → Prop} (h : SO M w b s bo o F) (hk5 : Ko w b w5) (hb6 : Below w5.heap.size w5 w6) (hbs : w5.heap.size = bs) (hst : Stm (bs + 1) w6 bs none 0 [] 0) (hk7 : Ko w6 b w7) (hx7 : SB SsK b (ssL (begP s) (some bs)) w7) : ∃ F', SO M w7 b (begP s) bo o F' ∧ Kf w w7 F F' := by
  obtain ⟨st, vb, ve, l, h1, h2, h3, h4⟩ := h
  have lb := h1.box.lt
  have z5 := hk5.size
  have hbl : ∀ g, g < w.heap.size → g ≠ b → w7.heap[g]? = w.heap[g]? := fun g hg hn => ((hk7.block g hn).trans (hb6.block g (by omega))).trans (hk5.block g hn)
  have hS : ∀ g, fpS b (some (bs, none, 0)) g → g = b ∨ g = bs := fun g hg => by
    rcases hg with e | ⟨p, e, e2 | e2⟩
    · exact .inl e
    · cases e; exact .inr e2
    · cases e; cases e2
  refine ⟨fun g => fpS b (some (bs, none, 0)) g ∨ fpO bo vb ve l g, ⟨some (bs, none, 0), vb, ve, l, ⟨hx7, fun p e => ?_, ⟨fun e => by (cases e), fun e => absurd e (by show ¬ (1 : Int) = 0; decide)⟩, ?_, ⟨⟨by show _ ≤ (240 : Int); decide, by show (240 : Int) < _; decide⟩, h1.wt.2⟩, fun _ => sok_nil, Nat.zero_le _⟩, h2.blk (fun g hg hl => hbl g hl (fun e => h3 b (.inl rfl) (e ▸ hg))), fun g hg ho => ?_, fun g => Iff.rfl⟩, ⟨(hk5.str.trans (hb6.mono (Nat.zero_le _))).trans hk7.str, fun g hg hf => hbl g hg (fun e => hf ((h4 g).2 (.inl (.inl e)))), fun g hg => ?_⟩⟩
  · cases e
    refine ⟨hst.blk (hk7.block bs (by omega)) (fun g e => by cases e), by show bs ≠ b; omega, fun e => by cases e⟩
  · obtain ⟨r1, r2, r3, r4, r5⟩ := h1.rg
    show 0 ≤ s.clock ∧ s.clock ≤ s.clock ∧ (0 : Int) ≤ 0 ∧ 0 ≤ s.clock ∧ s.clock < _
    omega
  · rcases hS g hg with rfl | rfl
    · exact h3 g (.inl rfl) ho
    · have := (h2.lt g ho).1; omega
  · rcases hg with hg | hg
    · rcases hS g hg with rfl | rfl
      · exact .inl ((h4 g).2 (.inl (.inl rfl)))
      · exact .inr (by omega)
    · exact .inl ((h4 g).2 (.inr hg))
/-! the walks -/
theorem st_res {W : World} {b : Nat} {u v : Value} (h : SB OutK b [u, v] W) {tm : Array Value} (t4 : (tm[4]?).getD undef = .pointer (some ⟨b, 0, none⟩)) : (results Try.f10 tm).run Try.prog W = .ok (.agg #[u, v]) W := by
  have c0 : W.cell? ⟨b, 0, none⟩ = some u := h.cell 0
  have c1 : W.cell? ⟨b, 1, none⟩ = some v := h.cell 1
  simp [results, Try.results10, go_sem, t4, c0, c1]
theorem ti_res {W : World} {b : Nat} {u v : Value} (h : SB OutK b [u, v] W) {tm : Array Value} (t4 : (tm[4]?).getD undef = .pointer (some ⟨b, 0, none⟩)) : (results Try.f17 tm).run Try.prog W = .ok (.agg #[u, v]) W := by
  have c0 : W.cell? ⟨b, 0, none⟩ = some u := h.cell 0
  have c1 : W.cell? ⟨b, 1, none⟩ = some v := h.cell 1
  simp [results, Try.results17, go_sem, t4, c0, c1]
set_option maxRecDepth 100000 in
set_option maxHeartbeats 8000000 in
theorem tick_any (b : Nat) (s : Se) (st : Sp) (now : Int) (w : World) (h : Ses w b s st) (hn : -9223372036854775808 ≤ now ∧ now < 9223372036854775808) (s' : Se) (o' : Ou) (hP : moveP s now = (s', o')) :
    Calls Try.prog 17 #[.pointer (some ⟨b, 0, none⟩), .int .i64 now] w (MvPost w b st (s', o')) := by
  have HS : Hid (Ses w b s st) := h
  have HP : Hid (moveP s now = (s', o')) := hP
  clear h hP
  go_enter Try.func17, Try.ntmps17
  go_wp2_with (refine list_onew rfl rfl ?_)
  intro rb w1 hrb hx1 hb1
  have HLT : Hid (∀ g, fpS b st g → g < w.heap.size) := HS.out.lt
  have HS1 : Hid (Ses w1 b s st) := HS.out.blk (fun g _ hl => hb1.out.block g hl)
  obtain ⟨s1, o1, hm1⟩ : ∃ s1 o1, moveP s now = (s1, o1) := ⟨_, _, rfl⟩
  have HMV := move_any b s st now w1 HS1.out hn s1 o1 hm1
  have hlen := moveP_len s now
  rw [hm1] at hlen
  have HLN : Hid (o1.b.length ≤ 1024 ∧ o1.ev.length ≤ 1) := hlen
  have HM1 : Hid (moveP s now = (s1, o1)) := hm1
  have HRBE : Hid (w.heap.size = rb) := hrb.out
  have HRB : Hid (w.heap.size ≤ rb) := by show _ ≤ _; have := hrb.out; omega
  have HB1 : Hid (Below w.heap.size w w1) := hb1.out
  have HX1 : Hid (SB OutK rb [.slice none 0 0, .slice none 0 0] w1) := hx1.out
  clear hm1 hlen hrb hx1 hb1 HS1
  obtain ⟨rfl, rfl⟩ : s1 = s' ∧ o1 = o' := by have h5 := HM1.out.symm.trans HP.out; cases h5; exact ⟨rfl, rfl⟩
  go_wp2_with fail
  refine HMV.mono ?_
  rintro e w2 ⟨vb, ve, l, st1, rfl, hs2, ho2, ha2, hk2⟩
  obtain ⟨x1, y1, e1, -⟩ := ho2.bys.form
  obtain ⟨x2, y2, e2, -⟩ := ho2.ev.own.form
  have HX2 : Hid (SB OutK rb [.slice none 0 0, .slice none 0 0] w2) := HX1.out.blk (hk2.blk rb HX1.out.lt (fun e => by have := HLT.out _ e; have := HRBE.out; omega))
  have HEND : Hid (∀ w3, Ko w2 rb w3 → MvPost w b st (s1, o1) (.returned (.agg #[vb, ve])) w3) := fun w3 hk3 => by
    have l1 := HB1.out.size
    have lr := HX1.out.lt
    have hne : ∀ g, (fpS b st1 g ∨ fpV vb ve l g) → g ≠ rb := fun g hg e => by
      subst e
      rcases hg with e | e | e | ⟨p, hp, hm⟩
      · rcases hk2.now _ e with e2 | e2
        · have := HLT.out _ e2; have := HRBE.out; omega
        · omega
      · have := (ho2.bys.row.lt _ e).1; omega
      · have := (ho2.ev.own.row.lt _ e).1; omega
      · have := ((ho2.ev.each p hp).rng _ hm).1; omega
    have hev := ho2.ev.blk (W' := w3) (fun g e hl => hk3.block g (hne g (.inr (.inr e))))
    refine ⟨vb, ve, l, st1, rfl, hs2.blk (fun g hg _ => hk3.block g (hne g (.inl hg))), ⟨(ho2.bys.blk (fun g e => hk3.block g (hne g (.inr (.inl e))))).mono l1, ⟨hev.own.mono l1, fun p hp => (hev.each p hp).mono l1, hev.ap, hev.pw⟩, ho2.eq, ho2.a1⟩, ha2, ⟨((HB1.out.mono (Nat.zero_le _)).trans hk2.str).trans hk3.str, fun g hg hf => ((hk3.block g (by have := HRBE.out; omega)).trans (hk2.blk g (by omega) hf)).trans (HB1.out.block g hg), fun g hg => (hk2.now g hg).imp id (fun e => by omega)⟩⟩
  obtain ⟨z1, hz1⟩ : ∃ y, o1.b.length = y := ⟨_, rfl⟩
  obtain ⟨z2, hz2⟩ : ∃ y, l.length = y := ⟨_, rfl⟩
  rw [hz1] at e1
  rw [hz2] at e2
  subst e1 e2
  clear HMV hs2 ho2 ha2 hk2 hz1 hz2
  go_wp2_with (refine list_sstore OutK rfl _ _ rfl (b := rb) (cs := [.slice none 0 0, .slice none 0 0]) (cs' := [.slice x1 z1 y1, .slice x2 z2 y2]) rfl rfl HX2.out rfl rfl rfl ?_)
  intro w6 hb6 hk6
  have HR : Hid (MvPost w b st (s1, o1) (.returned (.agg #[.slice x1 z1 y1, .slice x2 z2 y2])) w6) := HEND.out w6 hk6.out
  clear hk6
  go_wp2_with fail
  exact bodyPost_ret (ti_res hb6.out rfl) rfl HR.out
set_option maxRecDepth 100000 in
set_option maxHeartbeats 8000000 in
theorem start_any (b : Nat) (s : Se) (st : Sp) (now : Int) (w : World) (h : Ses w b s st) (hn : -9223372036854775808 ≤ now ∧ now < 9223372036854775808) (s' : Se) (o' : Ou) (hP : startP s now = (s', o')) :
    Calls Try.prog 10 #[.pointer (some ⟨b, 0, none⟩), .int .i64 now] w (MvPost w b st (s', o')) := by
  have HS : Hid (Ses w b s st) := h
  have HP : Hid (startP s now = (s', o')) := hP
  clear h hP
  go_enter Try.func10, Try.ntmps10
  go_wp2_with (refine list_onew rfl rfl ?_)
  intro rb w1 hrb hx1 hb1
  have HLT : Hid (∀ g, fpS b st g → g < w.heap.size) := HS.out.lt
  have HS1 : Hid (Ses w1 b s st) := HS.out.blk (fun g _ hl => hb1.out.block g hl)
  obtain ⟨s1, o1, hm1⟩ : ∃ s1 o1, moveP s now = (s1, o1) := ⟨_, _, rfl⟩
  have HMV := move_any b s st now w1 HS1.out hn s1 o1 hm1
  have hlen := moveP_len s now
  rw [hm1] at hlen
  have HLN : Hid (o1.b.length ≤ 1024 ∧ o1.ev.length ≤ 1) := hlen
  have HM1 : Hid (moveP s now = (s1, o1)) := hm1
  have HRBE : Hid (w.heap.size = rb) := hrb.out
  have HRB : Hid (w.heap.size ≤ rb) := by show _ ≤ _; have := hrb.out; omega
  have HB1 : Hid (Below w.heap.size w w1) := hb1.out
  have HX1 : Hid (SB OutK rb [.slice none 0 0, .slice none 0 0] w1) := hx1.out
  clear hm1 hlen hrb hx1 hb1 HS1
  have HP1 : Hid (startQ s1 o1 = (s', o')) := by have h5 := HP.out; unfold startP at h5; rw [HM1.out] at h5; exact h5
  go_wp2_with fail
  refine HMV.mono ?_
  rintro e w2 ⟨vb, ve, l, st1, rfl, hs2, ho2, ha2, hk2⟩
  have HS2 : Hid (Ses w2 b s1 st1) := hs2
  have HO2 : Hid (OutV w1.heap.size w2 o1 vb ve l) := ho2
  have HA2 : Hid (∀ g, fpS b st1 g → ¬ fpV vb ve l g) := ha2
  have HK2 : Hid (Kf w1 w2 (fpS b st) (fpS b st1)) := hk2
  obtain ⟨x1, y1, e1, -⟩ := ho2.bys.form
  obtain ⟨x2, y2, e2, -⟩ := ho2.ev.own.form
  obtain ⟨z1, hz1⟩ : ∃ y, o1.b.length = y := ⟨_, rfl⟩
  obtain ⟨z2, hz2⟩ : ∃ y, l.length = y := ⟨_, rfl⟩
  rw [hz1] at e1
  rw [hz2] at e2
  subst e1 e2
  clear HMV hs2 ho2 ha2 hk2 hz1 hz2
  go_wp2_with (refine list_onew rfl rfl ?_)
  intro bo w3 hbo hx3 hb3
  go_wp2_with (refine list_sstore OutK rfl _ _ rfl (b := bo) (cs := [.slice none 0 0, .slice none 0 0]) (cs' := [.slice x1 z1 y1, .slice x2 z2 y2]) rfl rfl hx3.out rfl rfl rfl ?_)
  intro w4 hx4 hk4
  obtain ⟨q1, q2, q3, q4⟩ := SO.boxed HLT.out HRBE.out HB1.out HX1.out HS2.out HO2.out HA2.out HK2.out hb3.out hbo.out hk4.out hx4.out
  obtain ⟨F4, hF4⟩ : ∃ F4, (fun g => fpS b st1 g ∨ fpO bo (.slice x1 z1 y1) (.slice x2 z2 y2) l g) = F4 := ⟨_, rfl⟩
  have HNF4 : Hid (¬ F4 rb) := by rw [← hF4]; exact q3
  rw [hF4] at q1 q2
  have HSO4 : Hid (SO w.heap.size w4 b s1 bo o1 F4) := q1
  have HKF4 : Hid (Kf w w4 (fpS b st) F4) := q2
  have HX4 : Hid (SB OutK rb [.slice none 0 0, .slice none 0 0] w4) := q4
  have HM4 : Hid (w.heap.size ≤ w4.heap.size) := q2.str.size
  clear q1 q2 q3 q4 hF4 hbo hx3 hb3 hx4 hk4 HS2 HO2 HA2 HK2 HX1 HB1 HRBE HLT
  obtain ⟨p4, hp4⟩ := HSO4.out.cells
  have HB4 : Hid (SB SsK b (ssL s1 p4) w4) := hp4
  have c5 : w4.cell? ⟨b, 5, none⟩ = some (.int .i64 s1.state) := hp4.cell 5
  clear hp4
  go_wp2_with fail
  by_cases h0 : s1.state = 0
  · refine (idle_any b s1.state true w4 c5 (by simpa using h0)).mono ?_
    rintro e w' ⟨rfl, hw'⟩
    rw [hw']
    clear hw' w'
    have H0 : Hid (s1.state = 0) := h0
    clear h0
    have f5 : w4.frozen? ⟨b, 5, none⟩ = false := HB4.out.fro 5
    have HB5 : Hid (SB SsK b ((ssL s1 p4).set 5 (.int .i64 1)) (w4.setCell ⟨b, 5, none⟩ (.int .i64 1))) := HB4.out.set 5 _ rfl
    have HK5 : Hid (Ko w4 b (w4.setCell ⟨b, 5, none⟩ (.int .i64 1))) := Ko.set _ _ _ _
    go_wp2_with fail
    obtain ⟨w5, hw5⟩ : ∃ y, w4.setCell ⟨b, 5, none⟩ (.int .i64 1) = y := ⟨_, rfl⟩
    rw [hw5] at HB5 HK5 ⊢
    clear hw5 c5 f5 HB4
    refine wp_region_held_drew (S := fun W => W.cell? ⟨b, 4, none⟩ = some (.int .i64 s1.clock)) (by kernel_rfl) (HB5.out.cell 4) (fun hHeld => ?_)
    obtain ⟨X0, hX0⟩ : ∃ x, w5.drew = x := ⟨_, rfl⟩
    have HK0 : Hid (Ko w4 b X0) := by rw [← hX0]; exact HK5.out.trans ⟨(drew_bel w5).mono (Nat.zero_le _), rfl, fun _ _ => rfl⟩
    have HB0 : Hid (SB SsK b ((ssL s1 p4).set 5 (.int .i64 1)) X0) := by rw [← hX0]; exact HB5.out
    rw [hX0] at hHeld ⊢
    clear hX0 HB5 HK5
    refine wpAnyH_take (i := 0) (v := ?_) rfl (by kernel_rfl) (by kernel_rfl) (by kernel_rfl) (fun _ _ _ h => h) (Or.inl ⟨by rfl, ?_⟩) (by assumption) ?_
    case refine_2 => intro W hSw; go_simp; try rfl
    try simp only [Act.put, List.getElem_toArray, List.getElem_cons_zero, List.getElem_cons_succ, List.setIfInBounds_toArray, List.set_cons_zero, List.set_cons_succ]
    refine wpAnyH_take (i := 2) (v := ?_) rfl (by kernel_rfl) (by kernel_rfl) (by kernel_rfl) (fun _ _ _ h => h) (Or.inl ⟨by rfl, ?_⟩) (by assumption) ?_
    case refine_2 => intro W hSw; go_simp; try rfl
    try simp only [Act.put, List.getElem_toArray, List.getElem_cons_zero, List.getElem_cons_succ, List.setIfInBounds_toArray, List.set_cons_zero, List.set_cons_succ]
    refine wpAnyH_take (i := 3) (v := ?_) rfl (by kernel_rfl) (by kernel_rfl) (by kernel_rfl) (fun _ _ _ h => h) (Or.inl ⟨by rfl, ?_⟩) (by assumption) ?_
    case refine_2 => intro W hSw; go_simp; try rfl
    try simp only [Act.put, List.getElem_toArray, List.getElem_cons_zero, List.getElem_cons_succ, List.setIfInBounds_toArray, List.set_cons_zero, List.set_cons_succ]
    refine wpAnyH_take (i := 4) (v := ?_) rfl (by kernel_rfl) (by kernel_rfl) (by kernel_rfl) (fun _ _ _ h => h) (Or.inl ⟨by rfl, ?_⟩) (by assumption) ?_
    case refine_2 => intro W hSw; go_simp; try rfl
    try simp only [Act.put, List.getElem_toArray, List.getElem_cons_zero, List.getElem_cons_succ, List.setIfInBounds_toArray, List.set_cons_zero, List.set_cons_succ]
    refine wpAnyH_take (i := 5) (v := .int .i64 s1.clock) rfl (by kernel_rfl) (by kernel_rfl) (by kernel_rfl) (fun _ _ _ h => h) (Or.inl ⟨by rfl, ?_⟩) (by assumption) ?_
    case refine_1 => intro W hSw; have cc := hSw; go_simp; try rfl
    try simp only [Act.put, List.getElem_toArray, List.getElem_cons_zero, List.getElem_cons_succ, List.setIfInBounds_toArray, List.set_cons_zero, List.set_cons_succ]
    refine wpAnyH_ready (rs := [1]) (by kernel_rfl) (by simp) ?_
    refine AllReadyH.cons rfl (fun K hK => ?_) AllReadyH.nil
    go_simp
    refine (new_any X0).mono ?_
    rintro e X1 ⟨rfl, hst, hb1⟩
    obtain ⟨bs, hbs⟩ : ∃ y, X0.heap.size = y := ⟨_, rfl⟩
    have HST : Hid (Stm (bs + 1) X1 bs none 0 [] 0) := by rw [← hbs]; exact hst _ (by omega)
    have HBX : Hid (Below X0.heap.size X0 X1) := hb1
    have HBS : Hid (X0.heap.size = bs) := hbs
    have HB1 : Hid (SB SsK b ((ssL s1 p4).set 5 (.int .i64 1)) X1) := HB0.out.blk (hb1.block b HB0.out.lt)
    rw [hbs]
    refine hK.out _ _ (HB1.out.cell 4) (fun hHeld => ?_)
    clear hK K hst hb1 hbs HB0
    try simp only [Act.put, List.getElem_toArray, List.getElem_cons_zero, List.getElem_cons_succ, List.setIfInBounds_toArray, List.set_cons_zero, List.set_cons_succ]
    refine wpAnyH_take (i := 6) (v := ?_) rfl (by kernel_rfl) (by kernel_rfl) (by kernel_rfl) (fun _ _ _ h => h) (Or.inl ⟨by rfl, ?_⟩) (by assumption) ?_
    case refine_2 => intro W hSw; go_simp; try rfl
    try simp only [Act.put, List.getElem_toArray, List.getElem_cons_zero, List.getElem_cons_succ, List.setIfInBounds_toArray, List.set_cons_zero, List.set_cons_succ]
    refine wpAnyH_take (i := 7) (v := ?_) rfl (by kernel_rfl) (by kernel_rfl) (by kernel_rfl) (fun _ _ _ h => h) (Or.inl ⟨by rfl, ?_⟩) (by assumption) ?_
    case refine_2 => intro W hSw; go_simp; try rfl
    try simp only [Act.put, List.getElem_toArray, List.getElem_cons_zero, List.getElem_cons_succ, List.setIfInBounds_toArray, List.set_cons_zero, List.set_cons_succ]
    refine wpAnyH_take (i := 8) (v := ?_) rfl (by kernel_rfl) (by kernel_rfl) (by kernel_rfl) (fun _ _ _ h => h) (Or.inl ⟨by rfl, ?_⟩) (by assumption) ?_
    case refine_2 => intro W hSw; go_simp; try rfl
    try simp only [Act.put, List.getElem_toArray, List.getElem_cons_zero, List.getElem_cons_succ, List.setIfInBounds_toArray, List.set_cons_zero, List.set_cons_succ]
    refine wpAnyH_ready (rs := [9]) (by kernel_rfl) (by simp) ?_
    refine AllReadyH.cons rfl (fun K hK => ?_) AllReadyH.nil
    refine step_runs rfl (sput_run SsK TkK (.tmp 22) (.tmp 20) rfl (b := b) (off := 6) (cs := (ssL s1 p4).set 5 (.int .i64 1)) (vs := [.pointer (some ⟨bs, 0, none⟩), .int .i64 s1.clock, .int .i64 0, .int .i64 240, .int .i64 0]) rfl rfl HB1.out rfl (Nat.le_refl 11) rfl) ?_
    have HB7 : Hid (SB SsK b (ssL (begP s1) (some bs)) (X1.setCells b 6 [.pointer (some ⟨bs, 0, none⟩), .int .i64 s1.clock, .int .i64 0, .int .i64 240, .int .i64 0])) := SB.cells _ 6 _ X1 HB1.out
    have HKX : Hid (Ko X1 b (X1.setCells b 6 [.pointer (some ⟨bs, 0, none⟩), .int .i64 s1.clock, .int .i64 0, .int .i64 240, .int .i64 0])) := Ko.cellsL b _ 6 X1
    refine hK.out _ _ (HB7.out.cell 4) (fun hHeld => ?_)
    clear hK K
    obtain ⟨w7, hw7⟩ : ∃ y, X1.setCells b 6 [.pointer (some ⟨bs, 0, none⟩), .int .i64 s1.clock, .int .i64 0, .int .i64 240, .int .i64 0] = y := ⟨_, rfl⟩
    rw [hw7] at HB7 HKX ⊢
    clear hw7
    try simp only [Act.put, List.getElem_toArray, List.getElem_cons_zero, List.getElem_cons_succ, List.setIfInBounds_toArray, List.set_cons_zero, List.set_cons_succ]
    refine wpAnyH_done (by kernel_rfl) ?_ _
    clear hHeld
    obtain ⟨F7, hs7, hk7⟩ := SO.begun HSO4.out HK0.out HBX.out HBS.out HST.out HKX.out HB7.out
    have HS7 : Hid (SO w.heap.size w7 b (begP s1) bo o1 F7) := hs7
    have HK7 : Hid (Kf w4 w7 F4 F7) := hk7
    clear hs7 hk7 HK0 HBX HBS HST HKX HB1
    go_wp2_with fail
    have d0 : w7.cell? ⟨b, 0, none⟩ = some (.int .i64 s1.dom) := HB7.out.cell 0
    have d1 : w7.cell? ⟨b, 1, none⟩ = some (.int .i64 s1.id) := HB7.out.cell 1
    have d2 : w7.cell? ⟨b, 2, none⟩ = some (.int .i64 s1.hold) := HB7.out.cell 2
    go_still_tail 17, (by kernel_rfl)
    change wpList _ _ _ _ _ (World.drew w7)
    obtain ⟨w8, hw8⟩ : ∃ y, w7.drew = y := ⟨_, rfl⟩
    have d0' : w8.cell? ⟨b, 0, none⟩ = some (.int .i64 s1.dom) := by rw [← hw8]; exact d0
    have d1' : w8.cell? ⟨b, 1, none⟩ = some (.int .i64 s1.id) := by rw [← hw8]; exact d1
    have d2' : w8.cell? ⟨b, 2, none⟩ = some (.int .i64 s1.hold) := by rw [← hw8]; exact d2
    have HS8 : Hid (SO w.heap.size w8 b (begP s1) bo o1 F7) := by rw [← hw8]; exact HS7.out.bel (drew_bel w7)
    have HK8 : Hid (Kf w4 w8 F4 F7) := by rw [← hw8]; exact HK7.out.trans (Kf.bel _ (drew_bel w7))
    have HM8 : Hid (w.heap.size ≤ w8.heap.size) := Nat.le_trans HM4.out HK8.out.str.size
    have HEN := send_any w.heap.size b bo (begP s1) o1 F7 (opn s1) sZ w8 HS8.out HM8.out (mok_zero w8 _ rfl rfl rfl) ⟨Nat.zero_le _, Nat.zero_le _⟩ (by have := HLN.out; omega) _ rfl s' o' (by rw [← HP1.out]; unfold startQ; rw [if_pos H0.out])
    rw [hw8]
    clear hw8 d0 d1 d2 HS7 HK7 HB7
    go_wp2_with fail
    refine HEN.mono ?_
    rintro e wZ ⟨rfl, FZ, hs8, hk8⟩
    have hk48 := HK8.out.trans hk8
    have HSOZ : Hid (SO w.heap.size wZ b s' bo o' FZ) := hs8
    have HKFZ : Hid (Kf w wZ (fpS b st) FZ) := HKF4.out.trans hk48
    have HXZ : Hid (SB OutK rb [.slice none 0 0, .slice none 0 0] wZ) := HX4.out.blk (hk48.blk rb HX4.out.lt HNF4.out)
    have HNFZ : Hid (¬ FZ rb) := fun h => by
      rcases hk48.now rb h with h | h
      · exact HNF4.out h
      · have := HX4.out.lt; omega
    clear HEN hs8 hk8 hk48 HS8 HK8 HSO4 HKF4 HX4 d0' d1' d2'
    obtain ⟨st5, vb5, ve5, l5, g1, g2, g3, g4⟩ := HSOZ.out
    have G1 : Hid (Ses wZ b s' st5) := g1
    have G2 : Hid (Out w.heap.size wZ bo o' vb5 ve5 l5) := g2
    have G3 : Hid (∀ g, fpS b st5 g → ¬ fpO bo vb5 ve5 l5 g) := g3
    have G4 : Hid (∀ g, FZ g ↔ fpS b st5 g ∨ fpO bo vb5 ve5 l5 g) := g4
    obtain ⟨x1, y1, e1, -⟩ := g2.bys.form
    obtain ⟨x2, y2, e2, -⟩ := g2.ev.own.form
    obtain ⟨z1, hz1⟩ : ∃ y, (o').b.length = y := ⟨_, rfl⟩
    obtain ⟨z2, hz2⟩ : ∃ y, l5.length = y := ⟨_, rfl⟩
    rw [hz1] at e1
    rw [hz2] at e2
    subst e1 e2
    clear g1 g2 g3 g4 hz1 hz2
    go_wp2_with (first | (refine list_sload OutK rfl _ rfl (b := bo) (cs := [.slice x1 z1 y1, .slice x2 z2 y2]) rfl G2.out.box rfl ?_) | (refine list_sstore OutK rfl _ _ rfl (b := rb) (cs := [.slice none 0 0, .slice none 0 0]) (cs' := [.slice x1 z1 y1, .slice x2 z2 y2]) rfl rfl HXZ.out rfl rfl rfl ?_))
    intro w16 hb16 hk16
    have HR : Hid (MvPost w b st (s', o') (.returned (.agg #[.slice x1 z1 y1, .slice x2 z2 y2])) w16) := mv_end G1.out G2.out G3.out G4.out HKFZ.out HNFZ.out HRB.out hk16.out
    clear hk16 G1 G2 G3 G4 HSOZ HKFZ HXZ
    go_wp2_with fail
    exact bodyPost_ret (st_res hb16.out rfl) rfl HR.out
  · refine (idle_any b s1.state false w4 c5 (by simpa using h0)).mono ?_
    rintro e w' ⟨rfl, hw'⟩
    rw [hw']
    clear hw' w'
    obtain ⟨rfl, rfl⟩ : s1 = s' ∧ o1 = o' := by
      have h5 := HP1.out
      unfold startQ at h5
      rw [if_neg h0] at h5
      cases h5
      exact ⟨rfl, rfl⟩
    obtain ⟨wZ, hwZ⟩ : ∃ y, w4 = y := ⟨_, rfl⟩
    obtain ⟨FZ, hFZ⟩ : ∃ y, F4 = y := ⟨_, rfl⟩
    have HSOZ : Hid (SO w.heap.size wZ b s1 bo o1 FZ) := by rw [← hwZ, ← hFZ]; exact HSO4.out
    have HKFZ : Hid (Kf w wZ (fpS b st) FZ) := by rw [← hwZ, ← hFZ]; exact HKF4.out
    have HXZ : Hid (SB OutK rb [.slice none 0 0, .slice none 0 0] wZ) := by rw [← hwZ]; exact HX4.out
    have HNFZ : Hid (¬ FZ rb) := by rw [← hFZ]; exact HNF4.out
    rw [hwZ]
    clear hwZ hFZ HSO4 HKF4 HX4 c5
    obtain ⟨st5, vb5, ve5, l5, g1, g2, g3, g4⟩ := HSOZ.out
    have G1 : Hid (Ses wZ b s1 st5) := g1
    have G2 : Hid (Out w.heap.size wZ bo o1 vb5 ve5 l5) := g2
    have G3 : Hid (∀ g, fpS b st5 g → ¬ fpO bo vb5 ve5 l5 g) := g3
    have G4 : Hid (∀ g, FZ g ↔ fpS b st5 g ∨ fpO bo vb5 ve5 l5 g) := g4
    obtain ⟨x1, y1, e1, -⟩ := g2.bys.form
    obtain ⟨x2, y2, e2, -⟩ := g2.ev.own.form
    obtain ⟨z1, hz1⟩ : ∃ y, (o1).b.length = y := ⟨_, rfl⟩
    obtain ⟨z2, hz2⟩ : ∃ y, l5.length = y := ⟨_, rfl⟩
    rw [hz1] at e1
    rw [hz2] at e2
    subst e1 e2
    clear g1 g2 g3 g4 hz1 hz2
    go_wp2_with (first | (refine list_sload OutK rfl _ rfl (b := bo) (cs := [.slice x1 z1 y1, .slice x2 z2 y2]) rfl G2.out.box rfl ?_) | (refine list_sstore OutK rfl _ _ rfl (b := rb) (cs := [.slice none 0 0, .slice none 0 0]) (cs' := [.slice x1 z1 y1, .slice x2 z2 y2]) rfl rfl HXZ.out rfl rfl rfl ?_))
    intro w16 hb16 hk16
    have HR : Hid (MvPost w b st (s1, o1) (.returned (.agg #[.slice x1 z1 y1, .slice x2 z2 y2])) w16) := mv_end G1.out G2.out G3.out G4.out HKFZ.out HNFZ.out HRB.out hk16.out
    clear hk16 G1 G2 G3 G4 HSOZ HKFZ HXZ
    go_wp2_with fail
    exact bodyPost_ret (st_res hb16.out rfl) rfl HR.out
end Go.Proofs.Ytanboekdfdafmaa.Pv
namespace Go.Proofs.Ytanboekdfdafmaa.Pv
open Go.ChangeShapes Go.WideShapes Go.ChangeAt Go.RowKit Go.Joins Go.Deep Go.Proofs.Ytanboekdfdafmaa.PM Go.Proofs.Ytanboekdfdafmaa.Ask Go.Proofs.Ytanboekdfdafmaa.Ge
set_option linter.unusedVariables false
set_option linter.unusedSimpArgs false

def tellQ (s : Se) (o : Ou) (m : Ms) : (Se × Ou) × Int := if s.state = 3 then (if m.kind = 2 then (sendP s o m, encE m) else ((s, o), 13)) else ((s, o), 10)
def tmP (s : Se) (m : Ms) (now : Int) : (Se × Ou) × Int := tellQ (moveP s now).1 (moveP s now).2 m
def TmPost (w : World) (b : Nat) (st : Sp) (q : (Se × Ou) × Int) (e : Ending) (w' : World) : Prop := ∃ v, e = .returned (.tuple #[v, .int .i64 q.2]) ∧ MvPost w b st q.1 (.returned v) w'
theorem state_any (b : Nat) (z : Int) (w : World) (h : w.cell? ⟨b, 5, none⟩ = some (.int .i64 z)) :
    Calls Try.prog 12 #[.pointer (some ⟨b, 0, none⟩)] w fun e w' => e = .returned (.int .i64 z) ∧ w' = w := by
  go_enter Try.func12, Try.ntmps12
  go_wp2_with fail
  go_ret
  exact ⟨rfl, rfl⟩
theorem num_any (z : Int) (w : World) (h : 1 ≤ z ∧ z ≤ 4294967295) :
    Calls Try.prog 25 #[.int .i64 z] w fun e w' => e = .returned (.bool true) ∧ w' = w := by
  obtain ⟨h1, h2⟩ := h
  go_enter Try.func25, Try.ntmps25
  go_wp2_with fail
  go_ret
  exact ⟨by simp [h1, h2], rfl⟩
theorem hold_any (z : Int) (w : World) (h : z = 0 ∨ (3 ≤ z ∧ z ≤ 65535)) :
    Calls Try.prog 26 #[.int .i64 z] w fun e w' => e = .returned (.bool true) ∧ w' = w := by
  by_cases h0 : z = 0
  · subst h0
    go_enter Try.func26, Try.ntmps26
    go_wp2_with fail
    go_ret
    exact ⟨rfl, rfl⟩
  · have h1 : 3 ≤ z := by omega
    have h2 : z ≤ 65535 := by omega
    have hb : (z == 0) = false := by simpa using h0
    clear h h0
    go_enter Try.func26, Try.ntmps26
    go_wp2_with fail
    go_ret
    exact ⟨by simp [h1, h2], rfl⟩
/-- a session that has just been made -/
def newS (d i h p : Int) : Se := ⟨d, i, h, p, 0, 0, 0, 0, 0, 0, [], 0⟩
/-! the walks -/
theorem tm_res {W : World} {b : Nat} {u v : Value} {er : Value} (h : SB OutK b [u, v] W) {tm : Array Value} (t6 : (tm[6]?).getD undef = .pointer (some ⟨b, 0, none⟩)) (t7 : (tm[7]?).getD undef = er) : (results Try.f15 tm).run Try.prog W = .ok (.tuple #[.agg #[u, v], er]) W := by
  have c0 : W.cell? ⟨b, 0, none⟩ = some u := h.cell 0
  have c1 : W.cell? ⟨b, 1, none⟩ = some v := h.cell 1
  simp [results, Try.results15, go_sem, t6, t7, c0, c1]
theorem MvPost.up {w wb : World} {b : Nat} {st : Sp} {q : Se × Ou} {e : Ending} {w' : World} (h : MvPost wb b st q e w') (hb : Below w.heap.size w wb) : MvPost w b st q e w' := by
  obtain ⟨vb, ve, l, st', he, h1, h2, h3, h4⟩ := h
  have l1 := hb.size
  refine ⟨vb, ve, l, st', he, h1, ⟨h2.bys.mono l1, ⟨h2.ev.own.mono l1, fun p hp => (h2.ev.each p hp).mono l1, h2.ev.ap, h2.ev.pw⟩, h2.eq, h2.a1⟩, h3, ⟨(hb.mono (Nat.zero_le _)).trans h4.str, fun g hg hf => (h4.blk g (by omega) hf).trans (hb.block g hg), fun g hg => (h4.now g hg).imp id (fun e => by omega)⟩⟩
set_option maxRecDepth 100000 in
set_option maxHeartbeats 8000000 in
theorem tm_any (b : Nat) (s : Se) (st : Sp) (m : Ms) (sl : Sl) (now : Int) (w : World) (h : Ses w b s st) (hn : -9223372036854775808 ≤ now ∧ now < 9223372036854775808) (hsm : m.lost.length ≤ 100000 ∧ m.hv.length ≤ 100000) (hok : ∀ W, w.heap.size ≤ W.heap.size → (∀ g, g < w.heap.size → ¬ fpS b st g → W.heap[g]? = w.heap[g]?) → MOk W m sl) (q : (Se × Ou) × Int) (hP : tmP s m now = q) :
    Calls Try.prog 15 #[.pointer (some ⟨b, 0, none⟩), msV m sl, .int .i64 now] w (TmPost w b st q) := by
  have HS0 : Hid (Ses w b s st) := h
  obtain ⟨⟨s', o'⟩, er⟩ := q
  have HP : Hid (tmP s m now = ((s', o'), er)) := hP
  have HOK : Hid (∀ W, w.heap.size ≤ W.heap.size → (∀ g, g < w.heap.size → ¬ fpS b st g → W.heap[g]? = w.heap[g]?) → MOk W m sl) := hok
  clear h hP hok
  go_enter Try.func15, Try.ntmps15
  go_wp2_with (refine list_sbox PmK rfl _ rfl (cs := msL m sl) rfl ?_)
  intro wb hbb hbbl hbz
  obtain ⟨be, hbe⟩ : ∃ y, w.heap.size = y := ⟨_, rfl⟩
  have HXB : Hid (SB PmK be (msL m sl) wb) := by rw [← hbe]; exact hbb.out
  have HBW : Hid (Below w.heap.size w wb) := hbbl.out
  have HBEQ : Hid (w.heap.size = be) := hbe
  have HS : Hid (Ses wb b s st) := HS0.out.blk (fun g _ hl => hbbl.out.block g hl)
  rw [hbe]
  clear hbb hbbl hbz hbe
  go_wp2_with (refine list_onew rfl rfl ?_)
  intro rb w1 hrb hx1 hb1
  have HLT : Hid (∀ g, fpS b st g → g < wb.heap.size) := HS.out.lt
  have HS1 : Hid (Ses w1 b s st) := HS.out.blk (fun g _ hl => hb1.out.block g hl)
  obtain ⟨s1, o1, hm1⟩ : ∃ s1 o1, moveP s now = (s1, o1) := ⟨_, _, rfl⟩
  have HMV := move_any b s st now w1 HS1.out hn s1 o1 hm1
  have hlen := moveP_len s now
  rw [hm1] at hlen
  have HLN : Hid (o1.b.length ≤ 1024 ∧ o1.ev.length ≤ 1) := hlen
  have HM1 : Hid (moveP s now = (s1, o1)) := hm1
  have HRBE : Hid (wb.heap.size = rb) := hrb.out
  have HRB : Hid (wb.heap.size ≤ rb) := by show _ ≤ _; have := hrb.out; omega
  have HB1 : Hid (Below wb.heap.size wb w1) := hb1.out
  have HX1 : Hid (SB OutK rb [.slice none 0 0, .slice none 0 0] w1) := hx1.out
  clear hm1 hlen hrb hx1 hb1 HS1
  have HP1 : Hid (tellQ s1 o1 m = ((s', o'), er)) := by have h5 := HP.out; unfold tmP at h5; rw [HM1.out] at h5; exact h5
  go_wp2_with fail
  refine HMV.mono ?_
  rintro e w2 ⟨vb, ve, l, st1, rfl, hs2, ho2, ha2, hk2⟩
  have HS2 : Hid (Ses w2 b s1 st1) := hs2
  have HO2 : Hid (OutV w1.heap.size w2 o1 vb ve l) := ho2
  have HA2 : Hid (∀ g, fpS b st1 g → ¬ fpV vb ve l g) := ha2
  have HK2 : Hid (Kf w1 w2 (fpS b st) (fpS b st1)) := hk2
  obtain ⟨x1, y1, e1, -⟩ := ho2.bys.form
  obtain ⟨x2, y2, e2, -⟩ := ho2.ev.own.form
  obtain ⟨z1, hz1⟩ : ∃ y, o1.b.length = y := ⟨_, rfl⟩
  obtain ⟨z2, hz2⟩ : ∃ y, l.length = y := ⟨_, rfl⟩
  rw [hz1] at e1
  rw [hz2] at e2
  subst e1 e2
  clear HMV hs2 ho2 ha2 hk2 hz1 hz2
  go_wp2_with (refine list_onew rfl rfl ?_)
  intro bo w3 hbo hx3 hb3
  go_wp2_with (refine list_sstore OutK rfl _ _ rfl (b := bo) (cs := [.slice none 0 0, .slice none 0 0]) (cs' := [.slice x1 z1 y1, .slice x2 z2 y2]) rfl rfl hx3.out rfl rfl rfl ?_)
  intro w4 hx4 hk4
  obtain ⟨q1, q2, q3, q4⟩ := SO.boxed HLT.out HRBE.out HB1.out HX1.out HS2.out HO2.out HA2.out HK2.out hb3.out hbo.out hk4.out hx4.out
  obtain ⟨F4, hF4⟩ : ∃ F4, (fun g => fpS b st1 g ∨ fpO bo (.slice x1 z1 y1) (.slice x2 z2 y2) l g) = F4 := ⟨_, rfl⟩
  have HNF4 : Hid (¬ F4 rb) := by rw [← hF4]; exact q3
  rw [hF4] at q1 q2
  have HSO4 : Hid (SO wb.heap.size w4 b s1 bo o1 F4) := q1
  have HKF4 : Hid (Kf wb w4 (fpS b st) F4) := q2
  have HX4 : Hid (SB OutK rb [.slice none 0 0, .slice none 0 0] w4) := q4
  have HM4 : Hid (wb.heap.size ≤ w4.heap.size) := q2.str.size
  clear q1 q2 q3 q4 hF4 hbo hx3 hb3 hx4 hk4 HS2 HO2 HA2 HK2 HX1 HB1 HRBE HLT
  obtain ⟨p4, hp4⟩ := HSO4.out.cells
  have c5 : w4.cell? ⟨b, 5, none⟩ = some (.int .i64 s1.state) := hp4.cell 5
  have HNS : Hid (¬ fpS b st be) := fun e => by have := HS0.out.lt _ e; have := HBEQ.out; omega
  have HX4B : Hid (SB PmK be (msL m sl) w4) := HXB.out.blk (HKF4.out.blk be HXB.out.lt HNS.out)
  have m0 : w4.cell? ⟨be, 0, none⟩ = some (.int .i64 m.kind) := HX4B.out.cell 0
  have HOK4 : Hid (MOk w4 m sl) := HOK.out w4 (Nat.le_trans HBW.out.size HKF4.out.str.size) (fun g hg hf => (HKF4.out.blk g (Nat.lt_of_lt_of_le hg HBW.out.size) hf).trans (HBW.out.block g hg))
  clear hp4
  by_cases h3 : s1.state = 3
  · rw [h3] at c5
    by_cases h2 : m.kind = 2
    · rw [h2] at m0
      have HQ : Hid (sendP s1 o1 m = (s', o') ∧ encE m = er) := by
        have h5 := HP1.out
        unfold tellQ at h5
        rw [if_pos h3, if_pos h2] at h5
        exact ⟨(Prod.mk.inj h5).1, (Prod.mk.inj h5).2⟩
      have HEN := send_any wb.heap.size b bo s1 o1 F4 m sl w4 HSO4.out HM4.out HOK4.out hsm (by have := HLN.out; omega) er HQ.out.2 s' o' HQ.out.1
      clear h3 h2
      go_wp2_with (refine list_sload PmK rfl _ rfl (b := be) (cs := msL m sl) rfl HX4B.out rfl ?_)
      refine HEN.mono ?_
      rintro e wZ ⟨rfl, FZ, hs8, hk8⟩
      have HSOZ : Hid (SO wb.heap.size wZ b s' bo o' FZ) := hs8
      have HKFZ : Hid (Kf wb wZ (fpS b st) FZ) := HKF4.out.trans hk8
      have HXZ : Hid (SB OutK rb [.slice none 0 0, .slice none 0 0] wZ) := HX4.out.blk (hk8.blk rb HX4.out.lt HNF4.out)
      have HNFZ : Hid (¬ FZ rb) := fun h => by
        rcases hk8.now rb h with h | h
        · exact HNF4.out h
        · have := HX4.out.lt; omega
      clear HEN hs8 hk8 HSO4 HKF4 HX4 c5 m0
      obtain ⟨st5, vb5, ve5, l5, g1, g2, g3, g4⟩ := HSOZ.out
      have G1 : Hid (Ses wZ b s' st5) := g1
      have G2 : Hid (Out wb.heap.size wZ bo o' vb5 ve5 l5) := g2
      have G3 : Hid (∀ g, fpS b st5 g → ¬ fpO bo vb5 ve5 l5 g) := g3
      have G4 : Hid (∀ g, FZ g ↔ fpS b st5 g ∨ fpO bo vb5 ve5 l5 g) := g4
      obtain ⟨x1, y1, e1, -⟩ := g2.bys.form
      obtain ⟨x2, y2, e2, -⟩ := g2.ev.own.form
      obtain ⟨z1, hz1⟩ : ∃ y, (o').b.length = y := ⟨_, rfl⟩
      obtain ⟨z2, hz2⟩ : ∃ y, l5.length = y := ⟨_, rfl⟩
      rw [hz1] at e1
      rw [hz2] at e2
      subst e1 e2
      clear g1 g2 g3 g4 hz1 hz2
      go_wp2_with (first | (refine list_sload OutK rfl _ rfl (b := bo) (cs := [.slice x1 z1 y1, .slice x2 z2 y2]) rfl G2.out.box rfl ?_) | (refine list_sstore OutK rfl _ _ rfl (b := rb) (cs := [.slice none 0 0, .slice none 0 0]) (cs' := [.slice x1 z1 y1, .slice x2 z2 y2]) rfl rfl HXZ.out rfl rfl rfl ?_))
      intro w16 hb16 hk16
      have HR : Hid (MvPost wb b st (s', o') (.returned (.agg #[.slice x1 z1 y1, .slice x2 z2 y2])) w16) := mv_end G1.out G2.out G3.out G4.out HKFZ.out HNFZ.out HRB.out hk16.out
      clear hk16 G1 G2 G3 G4 HSOZ HKFZ HXZ
      go_wp2_with fail
      exact bodyPost_ret (tm_res hb16.out rfl rfl) rfl ⟨_, rfl, HR.out.up HBW.out⟩
    · have h2b : (m.kind != 2) = true := by simpa using h2
      have HQ : Hid (s1 = s' ∧ o1 = o' ∧ 13 = er) := by
        have h5 := HP1.out
        unfold tellQ at h5
        rw [if_pos h3, if_neg h2] at h5
        cases h5
        exact ⟨rfl, rfl, rfl⟩
      clear h3 h2
      obtain ⟨rfl, rfl, rfl⟩ := HQ.out
      obtain ⟨wZ, hwZ⟩ : ∃ y, w4 = y := ⟨_, rfl⟩
      obtain ⟨FZ, hFZ⟩ : ∃ y, F4 = y := ⟨_, rfl⟩
      have HSOZ : Hid (SO wb.heap.size wZ b s1 bo o1 FZ) := by rw [← hwZ, ← hFZ]; exact HSO4.out
      have HKFZ : Hid (Kf wb wZ (fpS b st) FZ) := by rw [← hwZ, ← hFZ]; exact HKF4.out
      have HXZ : Hid (SB OutK rb [.slice none 0 0, .slice none 0 0] wZ) := by rw [← hwZ]; exact HX4.out
      have HNFZ : Hid (¬ FZ rb) := by rw [← hFZ]; exact HNF4.out
      rw [hwZ] at c5 m0 ⊢
      clear hwZ hFZ HSO4 HKF4 HX4 HQ HP1 HP
      obtain ⟨st5, vb5, ve5, l5, g1, g2, g3, g4⟩ := HSOZ.out
      have G1 : Hid (Ses wZ b s1 st5) := g1
      have G2 : Hid (Out wb.heap.size wZ bo o1 vb5 ve5 l5) := g2
      have G3 : Hid (∀ g, fpS b st5 g → ¬ fpO bo vb5 ve5 l5 g) := g3
      have G4 : Hid (∀ g, FZ g ↔ fpS b st5 g ∨ fpO bo vb5 ve5 l5 g) := g4
      obtain ⟨x1, y1, e1, -⟩ := g2.bys.form
      obtain ⟨x2, y2, e2, -⟩ := g2.ev.own.form
      obtain ⟨z1, hz1⟩ : ∃ y, (o1).b.length = y := ⟨_, rfl⟩
      obtain ⟨z2, hz2⟩ : ∃ y, l5.length = y := ⟨_, rfl⟩
      rw [hz1] at e1
      rw [hz2] at e2
      subst e1 e2
      clear g1 g2 g3 g4 hz1 hz2
      go_wp2_with (first | (refine list_sload OutK rfl _ rfl (b := bo) (cs := [.slice x1 z1 y1, .slice x2 z2 y2]) rfl G2.out.box rfl ?_) | (refine list_sstore OutK rfl _ _ rfl (b := rb) (cs := [.slice none 0 0, .slice none 0 0]) (cs' := [.slice x1 z1 y1, .slice x2 z2 y2]) rfl rfl HXZ.out rfl rfl rfl ?_))
      intro w16 hb16 hk16
      have HR : Hid (MvPost wb b st (s1, o1) (.returned (.agg #[.slice x1 z1 y1, .slice x2 z2 y2])) w16) := mv_end G1.out G2.out G3.out G4.out HKFZ.out HNFZ.out HRB.out hk16.out
      clear hk16 G1 G2 G3 G4 HSOZ HKFZ HXZ
      go_wp2_with fail
      exact bodyPost_ret (tm_res hb16.out rfl rfl) rfl ⟨_, rfl, HR.out.up HBW.out⟩
  · have h3b : (s1.state != 3) = true := by simpa using h3
    have HQ : Hid (s1 = s' ∧ o1 = o' ∧ 10 = er) := by
      have h5 := HP1.out
      unfold tellQ at h5
      rw [if_neg h3] at h5
      cases h5
      exact ⟨rfl, rfl, rfl⟩
    clear h3
    obtain ⟨rfl, rfl, rfl⟩ := HQ.out
    obtain ⟨wZ, hwZ⟩ : ∃ y, w4 = y := ⟨_, rfl⟩
    obtain ⟨FZ, hFZ⟩ : ∃ y, F4 = y := ⟨_, rfl⟩
    have HSOZ : Hid (SO wb.heap.size wZ b s1 bo o1 FZ) := by rw [← hwZ, ← hFZ]; exact HSO4.out
    have HKFZ : Hid (Kf wb wZ (fpS b st) FZ) := by rw [← hwZ, ← hFZ]; exact HKF4.out
    have HXZ : Hid (SB OutK rb [.slice none 0 0, .slice none 0 0] wZ) := by rw [← hwZ]; exact HX4.out
    have HNFZ : Hid (¬ FZ rb) := by rw [← hFZ]; exact HNF4.out
    rw [hwZ] at c5 m0 ⊢
    clear hwZ hFZ HSO4 HKF4 HX4 HQ HP1 HP
    obtain ⟨st5, vb5, ve5, l5, g1, g2, g3, g4⟩ := HSOZ.out
    have G1 : Hid (Ses wZ b s1 st5) := g1
    have G2 : Hid (Out wb.heap.size wZ bo o1 vb5 ve5 l5) := g2
    have G3 : Hid (∀ g, fpS b st5 g → ¬ fpO bo vb5 ve5 l5 g) := g3
    have G4 : Hid (∀ g, FZ g ↔ fpS b st5 g ∨ fpO bo vb5 ve5 l5 g) := g4
    obtain ⟨x1, y1, e1, -⟩ := g2.bys.form
    obtain ⟨x2, y2, e2, -⟩ := g2.ev.own.form
    obtain ⟨z1, hz1⟩ : ∃ y, (o1).b.length = y := ⟨_, rfl⟩
    obtain ⟨z2, hz2⟩ : ∃ y, l5.length = y := ⟨_, rfl⟩
    rw [hz1] at e1
    rw [hz2] at e2
    subst e1 e2
    clear g1 g2 g3 g4 hz1 hz2
    go_wp2_with (first | (refine list_sload OutK rfl _ rfl (b := bo) (cs := [.slice x1 z1 y1, .slice x2 z2 y2]) rfl G2.out.box rfl ?_) | (refine list_sstore OutK rfl _ _ rfl (b := rb) (cs := [.slice none 0 0, .slice none 0 0]) (cs' := [.slice x1 z1 y1, .slice x2 z2 y2]) rfl rfl HXZ.out rfl rfl rfl ?_))
    intro w16 hb16 hk16
    have HR : Hid (MvPost wb b st (s1, o1) (.returned (.agg #[.slice x1 z1 y1, .slice x2 z2 y2])) w16) := mv_end G1.out G2.out G3.out G4.out HKFZ.out HNFZ.out HRB.out hk16.out
    clear hk16 G1 G2 G3 G4 HSOZ HKFZ HXZ
    go_wp2_with fail
    exact bodyPost_ret (tm_res hb16.out rfl rfl) rfl ⟨_, rfl, HR.out.up HBW.out⟩
def CfK : Sk := ⟨25, 4, _, Try.underlying25, rfl, by kernel_rfl⟩
set_option maxRecDepth 100000 in
set_option maxHeartbeats 8000000 in
theorem snew_any (d i h p : Int) (w : World) (hd : 1 ≤ d ∧ d ≤ 4294967295) (hi : 1 ≤ i ∧ i ≤ 4294967295) (hp : 1 ≤ p ∧ p ≤ 4294967295) (hh : h = 0 ∨ (3 ≤ h ∧ h ≤ 65535)) :
    Calls Try.prog 18 #[.agg #[.int .i64 d, .int .i64 i, .int .i64 h, .int .i64 p]] w fun e w' => ∃ b, e = .returned (.tuple #[.pointer (some ⟨b, 0, none⟩), .int .i64 0]) ∧ Ses w' b (newS d i h p) none ∧ Below w.heap.size w w' ∧ w.heap.size ≤ b := by
  go_enter Try.func18, Try.ntmps18
  go_wp2_with (refine list_sbox CfK rfl _ rfl (cs := [.int .i64 d, .int .i64 i, .int .i64 h, .int .i64 p]) rfl ?_)
  intro w1 hb1 hbl1 hz1
  obtain ⟨bc, hbc⟩ : ∃ y, w.heap.size = y := ⟨_, rfl⟩
  have HX1 : Hid (SB CfK bc [.int .i64 d, .int .i64 i, .int .i64 h, .int .i64 p] w1) := by rw [← hbc]; exact hb1.out
  have HB1 : Hid (Below w.heap.size w w1) := hbl1.out
  rw [hbc]
  clear hb1 hbl1 hz1 hbc
  have c0 : w1.cell? ⟨bc, 0, none⟩ = some (.int .i64 d) := HX1.out.cell 0
  have c1 : w1.cell? ⟨bc, 1, none⟩ = some (.int .i64 i) := HX1.out.cell 1
  have c2 : w1.cell? ⟨bc, 2, none⟩ = some (.int .i64 h) := HX1.out.cell 2
  have c3 : w1.cell? ⟨bc, 3, none⟩ = some (.int .i64 p) := HX1.out.cell 3
  go_wp2_with fail
  refine (num_any d w1 hd).mono ?_
  rintro e w' ⟨rfl, hw'⟩
  rw [hw']
  clear hw' w'
  go_wp2_with fail
  refine (num_any i w1 hi).mono ?_
  rintro e w' ⟨rfl, hw'⟩
  rw [hw']
  clear hw' w'
  go_wp2_with fail
  refine (num_any p w1 hp).mono ?_
  rintro e w' ⟨rfl, hw'⟩
  rw [hw']
  clear hw' w'
  go_wp2_with fail
  refine (hold_any h w1 hh).mono ?_
  rintro e w' ⟨rfl, hw'⟩
  rw [hw']
  clear hw' w'
  go_wp2_with (first | (refine list_sload CfK rfl _ rfl (b := bc) (cs := [.int .i64 d, .int .i64 i, .int .i64 h, .int .i64 p]) rfl HX1.out rfl ?_) | (refine list_sbox SsK rfl _ rfl (cs := ssL (newS d i h p) none) rfl ?_))
  intro w2 hb2 hbl2 hz2
  have HR : Hid (∃ b, (Ending.returned (.tuple #[.pointer (some ⟨w1.heap.size, 0, none⟩), .int .i64 0])) = .returned (.tuple #[.pointer (some ⟨b, 0, none⟩), .int .i64 0]) ∧ Ses w2 b (newS d i h p) none ∧ Below w.heap.size w w2 ∧ w.heap.size ≤ b) := by
    refine ⟨_, rfl, ⟨hb2.out, (fun p e => by cases e), ⟨fun _ => rfl, fun _ => rfl⟩, ?_, ⟨⟨by show _ ≤ (0 : Int); decide, by show (0 : Int) < _; decide⟩, ?_⟩, fun _ => sok_nil, Nat.zero_le _⟩, HB1.out.trans (hbl2.out.mono HB1.out.size), HB1.out.size⟩
    · show (0 : Int) ≤ 0 ∧ (0 : Int) ≤ 0 ∧ (0 : Int) ≤ 0 ∧ (0 : Int) ≤ 0 ∧ (0 : Int) < _
      omega
    · show _ ≤ h ∧ h < _
      omega
  clear hb2 hbl2 hz2
  go_wp2_with fail
  go_ret2
  exact HR.out
end Go.Proofs.Ytanboekdfdafmaa.Pv
