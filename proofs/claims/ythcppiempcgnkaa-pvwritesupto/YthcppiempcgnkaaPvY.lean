/- PvWrites answers true. -/
import Derived.Test.YthcppiempcgnkaaPvX
namespace Go.Proofs.Ythcppiempcgnkaa.Pv
open Go.ChangeShapes Go.WideShapes Go.ChangeAt Go.RowKit Go.Joins Go.Proofs.Ythcppiempcgnkaa.PM Go.Proofs.Ythcppiempcgnkaa.Ask Go.Proofs.Ythcppiempcgnkaa.Ge
set_option linter.unusedVariables false

set_option maxHeartbeats 4000000 in
theorem small_any (m : Ms) (s : Sl) (hb : m.lost.length ≤ 1048576 ∧ m.hv.length ≤ 1048576 ∧ m.rt.path.length ≤ 1048576 ∧ m.rt.marks.length ≤ 1048576 ∧ m.rt.clus.length ≤ 1048576) (t : Bool) (ht : decide (m.lost.length + m.hv.length + m.rt.path.length + m.rt.marks.length + m.rt.clus.length ≤ 20000) = t) (w : World) :
    Calls Try.prog 7 #[msV m s] w fun e w' => e = .returned (.bool t) ∧ Below w.heap.size w w' := by
  obtain ⟨n1, hn1⟩ : ∃ n, m.lost.length = n := ⟨_, rfl⟩
  have HN1 : Hid (m.lost.length = n1) := hn1
  obtain ⟨n2, hn2⟩ : ∃ n, m.hv.length = n := ⟨_, rfl⟩
  have HN2 : Hid (m.hv.length = n2) := hn2
  obtain ⟨q1, hq1⟩ : ∃ n, m.rt.path.length = n := ⟨_, rfl⟩
  have HQ1 : Hid (m.rt.path.length = q1) := hq1
  obtain ⟨q2, hq2⟩ : ∃ n, m.rt.marks.length = n := ⟨_, rfl⟩
  have HQ2 : Hid (m.rt.marks.length = q2) := hq2
  obtain ⟨q3, hq3⟩ : ∃ n, m.rt.clus.length = n := ⟨_, rfl⟩
  have HQ3 : Hid (m.rt.clus.length = q3) := hq3
  have HV : Hid (msV m s = .agg #[.int .i64 m.kind, .int .i64 m.dom, .int .i64 m.id, .int .i64 m.hold, .int .i64 m.code, .slice s.l n1 s.lc, .slice s.h n2 s.hc, .int .u32 m.rt.pa, .int .i64 m.rt.pn, .slice s.p q1 s.pc, .int .i64 m.rt.org, .int .i64 m.rt.pref, .int .i64 m.rt.med, .int .u32 m.rt.next, .slice s.m q2 s.mc, .slice s.c q3 s.cc, .int .i64 m.rt.auth]) := by unfold msV; rw [hn1, hn2, hq1, hq2, hq3]; rfl
  rw [hn1, hn2, hq1, hq2, hq3] at hb ht
  obtain ⟨b1, b2, b3, b4, b5⟩ := hb
  have HT : Hid (decide (n1 + n2 + q1 + q2 + q3 ≤ 20000) = t) := ht
  rw [HV.out]
  clear hn1 hn2 hq1 hq2 hq3 ht
  go_enter Try.func7, Try.ntmps7
  go_wp2_with fail
  go_ret
  refine ⟨ret_bool ?_, (Below.refl _ _).alloc (Nat.le_refl _) _⟩
  rw [← HT.out, Bool.eq_iff_iff, decide_eq_true_iff, decide_eq_true_iff]
  omega
theorem conv_by {va : Option Addr} {bs : List Nat} {L cap : Nat} {w : World} (h : Lst E8 w va bs) (hL : bs.length = L) : (convert 32 9 (.slice va L cap)).run Try.prog w = .ok (.string (strOfNums (bs.map (fun x : Nat => (x : Int))))) w := by
  cases va with
  | none =>
    obtain rfl : bs = [] := by
      cases bs with
      | nil => rfl
      | cons a l => obtain ⟨b, o, e, _⟩ := h.cells 0 (by simp); cases e
    rw [run_convert_bytes_nil w 32 5 Try.underlying32 Try.underlying5 L cap 9 Try.underlying9]
    rfl
  | some ad =>
    obtain ⟨b, o, sp⟩ := ad
    by_cases hp : 0 < bs.length
    · obtain ⟨b1, o1, e, _⟩ := h.cells 0 hp
      cases e
      refine run_convert_bytes_arg w 32 5 Try.underlying32 Try.underlying5 b o L cap _ (by rw [List.length_map]; exact hL) (fun i hi => ?_) 9 Try.underlying9
      obtain ⟨b1, o1, e, _, hc⟩ := lst8 h i (by omega)
      cases e
      rw [hc]
      simp [show i < bs.length by omega]
    · obtain rfl : bs = [] := List.length_eq_zero_iff.1 (by omega)
      obtain rfl : L = 0 := hL.symm
      rw [run_convert_bytes_string w 32 9 5 _ 0 cap Try.underlying32 Try.underlying5 Try.underlying9, run_bytesToString w _ 0 cap [] (by have := run_loadCells_list (P := Try.prog) w ⟨b, o, sp⟩ [] (fun j v hj => by simp at hj); simpa using this)]
      rfl
set_option maxRecDepth 100000 in
theorem bsame_any (va : Option Addr) (cap : Nat) (vb : Option Addr) (cap2 : Nat) (bs : List Nat) (L : Nat) (hL : bs.length = L) (w : World) (hx : Lst E8 w va bs) (hy : Lst E8 w vb bs) :
    Calls Try.prog 10 #[.slice va L cap, .slice vb L cap2] w fun e w' => e = .returned (.bool true) ∧ w' = w := by
  have h1 := conv_by (cap := cap) hx hL
  have h2 := conv_by (cap := cap2) hy hL
  obtain ⟨S, hS⟩ : ∃ S, strOfNums (bs.map (fun x : Nat => (x : Int))) = S := ⟨_, rfl⟩
  rw [hS] at h1 h2
  clear hx hy hS hL
  go_enter Try.func10, Try.ntmps10
  go_wp2_with fail
  go_ret
  exact ⟨rfl, rfl⟩
set_option maxRecDepth 100000 in
set_option maxHeartbeats 16000000 in
theorem writes_any (m : Ms) (s : Sl) (w : World) (hok : MOk w m s) (hb : m.lost.length ≤ 1048576 ∧ m.hv.length ≤ 1048576 ∧ m.rt.path.length ≤ 1048576 ∧ m.rt.marks.length ≤ 1048576 ∧ m.rt.clus.length ≤ 1048576) :
    Calls Try.prog 3 #[msV m s] w fun e w' => e = .returned (.bool true) ∧ Below w.heap.size w w' := by
  have HOK : Hid (MOk w m s) := hok
  have HBD : Hid (m.lost.length ≤ 1048576 ∧ m.hv.length ≤ 1048576 ∧ m.rt.path.length ≤ 1048576 ∧ m.rt.marks.length ≤ 1048576 ∧ m.rt.clus.length ≤ 1048576) := hb
  clear hok hb
  obtain ⟨n1, hn1⟩ : ∃ n, m.lost.length = n := ⟨_, rfl⟩
  have HN1 : Hid (m.lost.length = n1) := hn1
  obtain ⟨n2, hn2⟩ : ∃ n, m.hv.length = n := ⟨_, rfl⟩
  have HN2 : Hid (m.hv.length = n2) := hn2
  obtain ⟨q1, hq1⟩ : ∃ n, m.rt.path.length = n := ⟨_, rfl⟩
  have HQ1 : Hid (m.rt.path.length = q1) := hq1
  obtain ⟨q2, hq2⟩ : ∃ n, m.rt.marks.length = n := ⟨_, rfl⟩
  have HQ2 : Hid (m.rt.marks.length = q2) := hq2
  obtain ⟨q3, hq3⟩ : ∃ n, m.rt.clus.length = n := ⟨_, rfl⟩
  have HQ3 : Hid (m.rt.clus.length = q3) := hq3
  have HV : Hid (msV m s = .agg #[.int .i64 m.kind, .int .i64 m.dom, .int .i64 m.id, .int .i64 m.hold, .int .i64 m.code, .slice s.l n1 s.lc, .slice s.h n2 s.hc, .int .u32 m.rt.pa, .int .i64 m.rt.pn, .slice s.p q1 s.pc, .int .i64 m.rt.org, .int .i64 m.rt.pref, .int .i64 m.rt.med, .int .u32 m.rt.next, .slice s.m q2 s.mc, .slice s.c q3 s.cc, .int .i64 m.rt.auth]) := by unfold msV; rw [hn1, hn2, hq1, hq2, hq3]; rfl
  obtain ⟨t, ht⟩ : ∃ t, decide (m.lost.length + m.hv.length + m.rt.path.length + m.rt.marks.length + m.rt.clus.length ≤ 20000) = t := ⟨_, rfl⟩
  have HT : Hid (decide (m.lost.length + m.hv.length + m.rt.path.length + m.rt.marks.length + m.rt.clus.length ≤ 20000) = t) := ht
  rw [HV.out]
  clear hn1 hn2 hq1 hq2 hq3 ht
  go_enter Try.func3, Try.ntmps3
  go_upto_region 1 with fail
  obtain ⟨w0, hw0⟩ : ∃ w0, w.alloc (Obj.cells #[.int .i64 m.kind, .int .i64 m.dom, .int .i64 m.id, .int .i64 m.hold, .int .i64 m.code, .slice s.l n1 s.lc, .slice s.h n2 s.hc, .int .u32 m.rt.pa, .int .i64 m.rt.pn, .slice s.p q1 s.pc, .int .i64 m.rt.org, .int .i64 m.rt.pref, .int .i64 m.rt.med, .int .u32 m.rt.next, .slice s.m q2 s.mc, .slice s.c q3 s.cc, .int .i64 m.rt.auth] 30) = w0 := ⟨_, rfl⟩
  obtain ⟨hbx, hb0, hs0⟩ := mbox_new (m := m) (s := s) (w := w) (W := w0) (by rw [HN1.out, HN2.out, HQ1.out, HQ2.out, HQ3.out]; exact hw0)
  obtain ⟨b, hb⟩ : ∃ b, w.heap.size = b := ⟨_, rfl⟩
  rw [hw0]
  rw [hb] at hbx ⊢
  have HBZ : Hid (w.heap.size = b) := hb
  have HX0 : Hid (MBox b m s w0) := hbx
  have HB0 : Hid (Below w.heap.size w w0) := hb0
  have HO0 : Hid (MOk w0 m s) := HOK.out.bel hb0
  have hbs : b < w0.heap.size := by omega
  have HBX : Hid (∀ W, Below w0.heap.size w0 W → MBox b m s W) := fun W h => HX0.out.blk (h.block b hbs)
  have HBW : Hid (∀ W, Below w0.heap.size w0 W → Below w.heap.size w W) := fun W h => HB0.out.trans (h.mono HB0.out.size)
  have HMW : Hid (∀ W, Below w0.heap.size w0 W → MOk W m s) := fun W h => HO0.out.bel h
  clear hw0 hbx hb0 HOK hb hs0
  obtain ⟨c0, c1, c2, c3, c4, c5, c6, c7, c8, c9, c10, c11, c12, c13, c14, c15, c16⟩ := HX0.out
  rw [HN1.out] at c5
  rw [HN2.out] at c6
  rw [HQ1.out] at c9
  rw [HQ2.out] at c14
  rw [HQ3.out] at c15
  have HSM := small_any m s HBD.out t HT.out w0
  rw [HV.out] at HSM
  go_wp2_with fail
  refine HSM.mono ?_
  rintro e w1 ⟨rfl, hb1⟩
  have HB1 : Hid (Below w0.heap.size w0 w1) := hb1
  clear hb1 HSM c0 c1 c2 c3 c4 c5 c6 c7 c8 c9 c10 c11 c12 c13 c14 c15 c16
  obtain ⟨c0, c1, c2, c3, c4, c5, c6, c7, c8, c9, c10, c11, c12, c13, c14, c15, c16⟩ := HBX.out w1 HB1.out
  rw [HN1.out] at c5
  rw [HN2.out] at c6
  rw [HQ1.out] at c9
  rw [HQ2.out] at c14
  rw [HQ3.out] at c15
  cases t with
  | false =>
    have HE : Hid (Below w.heap.size w w1) := HBW.out _ HB1.out
    go_wp2_with fail
    go_ret
    exact ⟨rfl, HE.out⟩
  | true =>
    have hs5 : m.lost.length ≤ 20000 ∧ m.hv.length ≤ 20000 := by have h5 := of_decide_eq_true HT.out; omega
    have HS5 : Hid (m.lost.length ≤ 20000 ∧ m.hv.length ≤ 20000) := hs5
    have HEN := encode_any m s w1 (HMW.out _ HB1.out) (by omega) (encB m) (encE m) rfl rfl
    rw [HV.out] at HEN
    obtain ⟨er, her⟩ : ∃ e, encE m = e := ⟨_, rfl⟩
    obtain ⟨bs, hbs'⟩ : ∃ e, encB m = e := ⟨_, rfl⟩
    have HER : Hid (encE m = er) := her
    have HBS : Hid (encB m = bs) := hbs'
    rw [her, hbs'] at HEN
    clear her hbs' hs5
    as_aux_lemma =>
      go_wp2_with fail
      refine HEN.mono ?_
      rintro e w2 ⟨v2, rfl, ho2, hb2⟩
      obtain ⟨a2, l2, k2, rfl, ho2', hl2⟩ := own_slice ho2
      have HP2 : Hid (Pc8 w2 a2 l2 k2 bs) := OwnL.pc8 ho2'
      have HB2 : Hid (Below w0.heap.size w0 w2) := HB1.out.trans (hb2.mono HB1.out.size)
      have HRN := rencode_any m s w2 (HMW.out _ HB2.out) HS5.out bs er HBS.out HER.out
      rw [HV.out] at HRN
      clear ho2 ho2' hb2 HEN c0 c1 c2 c3 c4 c5 c6 c7 c8 c9 c10 c11 c12 c13 c14 c15 c16
      obtain ⟨c0, c1, c2, c3, c4, c5, c6, c7, c8, c9, c10, c11, c12, c13, c14, c15, c16⟩ := HBX.out w2 HB2.out
      rw [HN1.out] at c5
      rw [HN2.out] at c6
      rw [HQ1.out] at c9
      rw [HQ2.out] at c14
      rw [HQ3.out] at c15
      as_aux_lemma =>
        go_wp2_with fail
        refine HRN.mono ?_
        rintro e w3 ⟨v3, rfl, ho3, hb3⟩
        obtain ⟨a3, l3, k3, rfl, ho3', hl3⟩ := own_slice ho3
        have hl32 : l3 = l2 := by rw [← hl3, ← hl2]
        subst hl32
        have HP3 : Hid (Pc8 w3 a3 l3 k3 bs) := OwnL.pc8 ho3'
        have HP23 : Hid (Pc8 w3 a2 l3 k2 bs) := HP2.out.bel hb3
        have HB3 : Hid (Below w.heap.size w w3) := HBW.out _ (HB2.out.trans (hb3.mono HB2.out.size))
        clear ho3 ho3' hb3 HRN hl2 hl3 c0 c1 c2 c3 c4 c5 c6 c7 c8 c9 c10 c11 c12 c13 c14 c15 c16
        as_aux_lemma =>
          go_wp2_with fail
          refine (bsame_any a2 k2 a3 k3 bs l3 HP3.out.len w3 HP23.out.l HP3.out.l).mono ?_
          rintro e w5 ⟨rfl, hw5⟩
          rw [hw5]
          clear hw5 w5
          go_wp2_with fail
          go_ret
          exact ⟨rfl, HB3.out⟩
end Go.Proofs.Ythcppiempcgnkaa.Pv
