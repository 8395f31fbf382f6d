/- PvBack answers true. -/
import Derived.Test.YtjnjjkhdmdjaeaaPxA
import Derived.Test.YtjnjjkhdmdjaeaaPwT
import Derived.StillTailTactics
namespace Go.Proofs.Ytjnjjkhdmdjaeaa.Pv
open Go.ChangeShapes Go.WideShapes Go.ChangeAt Go.RowKit Go.Joins Go.Proofs.Ytjnjjkhdmdjaeaa.PM Go.Proofs.Ytjnjjkhdmdjaeaa.Ask Go.Proofs.Ytjnjjkhdmdjaeaa.Ge
set_option linter.unusedVariables false

set_option maxHeartbeats 4000000 in
theorem small_any (m : Ms) (s : Sl) (hb : m.lost.length ≤ 1048576 ∧ m.hv.length ≤ 1048576 ∧ m.rt.path.length ≤ 1048576 ∧ m.rt.marks.length ≤ 1048576 ∧ m.rt.clus.length ≤ 1048576) (t : Bool) (ht : decide (m.lost.length + m.hv.length + m.rt.path.length + m.rt.marks.length + m.rt.clus.length ≤ 20000) = t) (w : World) :
    Calls Try.prog 13 #[msV m s] w fun e w' => e = .returned (.bool t) ∧ Below w.heap.size w w' := by
  obtain ⟨n1, hn1⟩ : ∃ n, m.lost.length = n := ⟨_, rfl⟩
  obtain ⟨n2, hn2⟩ : ∃ n, m.hv.length = n := ⟨_, rfl⟩
  obtain ⟨q1, hq1⟩ : ∃ n, m.rt.path.length = n := ⟨_, rfl⟩
  obtain ⟨q2, hq2⟩ : ∃ n, m.rt.marks.length = n := ⟨_, rfl⟩
  obtain ⟨q3, hq3⟩ : ∃ n, m.rt.clus.length = n := ⟨_, rfl⟩
  rw [hn1, hn2, hq1, hq2, hq3] at hb ht
  unfold msV
  rw [hn1, hn2, hq1, hq2, hq3]
  obtain ⟨b1, b2, b3, b4, b5⟩ := hb
  have HT : Hid (decide (n1 + n2 + q1 + q2 + q3 ≤ 20000) = t) := ht
  clear hn1 hn2 hq1 hq2 hq3 ht
  go_enter Try.func13, Try.ntmps13
  go_wp2_with fail
  go_ret
  refine ⟨ret_bool ?_, (Below.refl _ _).alloc (Nat.le_refl _) _⟩
  rw [← HT.out, Bool.eq_iff_iff, decide_eq_true_iff, decide_eq_true_iff]
  omega
/-- which of n things a raw number speaks of -/
def md (c : Int) (n : Nat) : Nat := (c % (n : Int)).toNat
theorem md_lt {c : Int} {n : Nat} (h : 0 < n) : md c n < n := by
  unfold md
  have h1 := Int.emod_nonneg c (show (n : Int) ≠ 0 by omega)
  have h2 := Int.emod_lt_of_pos c (show (0 : Int) < n by omega)
  omega
theorem md_eq {c : Int} {n : Nat} (h : 0 < n) : (md c n : Int) = if c.tmod n < 0 then c.tmod n + n else c.tmod n := by
  unfold md
  rw [Int.toNat_of_nonneg (Int.emod_nonneg c (by omega))]
  have e := Int.emod_eq_tmod (a := c) (b := (n : Int))
  split at e
  · rename_i hc
    have h1 : 0 ≤ c.tmod n := by
      rcases hc with hc | hc
      · exact Int.tmod_nonneg _ hc
      · rw [Int.tmod_eq_zero_of_dvd hc]; exact Int.le_refl _
    rw [e, if_neg (by omega)]
    omega
  · rename_i hc
    have h1 : c.tmod n < 0 := by
      have h2 : ¬ 0 ≤ c := fun h => hc (.inl h)
      have h3 : c.tmod n ≠ 0 := fun h => hc (.inr (Int.dvd_of_tmod_eq_zero h))
      have h4 : c.tmod n ≤ 0 := by
        have e5 := Int.neg_tmod (-c) (n : Int)
        rw [Int.neg_neg] at e5
        have h6 := Int.tmod_nonneg (n : Int) (show 0 ≤ -c by omega)
        omega
      omega
    rw [e, if_pos h1]
    simp
set_option maxHeartbeats 4000000 in
theorem mod_any (c : Int) (hc : -9223372036854775808 ≤ c ∧ c < 9223372036854775808) (n : Nat) (h : 0 < n) (h2 : n ≤ 1048576) (k : Nat) (hk : md c n = k) (w : World) :
    Calls Try.prog 15 #[.int .i64 c, .int .i64 (n : Int)] w fun e w' => e = .returned (.int .i64 (k : Int)) ∧ w' = w := by
  have HK : Hid ((k : Int) = if c.tmod n < 0 then c.tmod n + n else c.tmod n) := by show _ = _; rw [← hk]; exact md_eq h
  have hlt : k < n := by rw [← hk]; exact md_lt h
  obtain ⟨t, ht⟩ : ∃ t, c.tmod n = t := ⟨_, rfl⟩
  rw [ht] at HK
  have hn0 : ¬ (n : Int) = 0 := by omega
  have htr : -(n : Int) < t ∧ t < n := by
    rw [← ht]
    have h5 := Int.lt_tmod_of_pos c (show (0 : Int) < n by omega)
    have h6 := Int.tmod_lt_of_pos c (show (0 : Int) < n by omega)
    exact ⟨h5, h6⟩
  by_cases hneg : t < 0
  · have HK2 : Hid ((k : Int) = t + n) := by have := HK.out; rw [if_pos hneg] at this; exact this
    clear HK hk
    go_enter Try.func15, Try.ntmps15
    go_wp2_with fail
    go_ret
    exact ⟨ret_i64 HK2.out.symm, rfl⟩
  · have HK2 : Hid ((k : Int) = t) := by have := HK.out; rw [if_neg hneg] at this; exact this
    clear HK hk
    go_enter Try.func15, Try.ntmps15
    go_wp2_with fail
    go_ret
    exact ⟨ret_i64 HK2.out.symm, rfl⟩
theorem mbox_run {o : Oper} (x : Operand) (ho : o.op = .box 31 x) {ρ : Operand → Value} {m : Ms} {s : Sl} {W : World} (hx : ρ x = msV m s) : (execOp ρ o).run Try.prog W = .ok (.value (.pointer (some ⟨W.heap.size, 0, none⟩))) (W.alloc (Obj.cells (msL m s).toArray 31)) := by
  unfold msV at hx
  unfold execOp
  rw [ho]
  simp [go_sem, hx, msL]
/-- a message is boxed -/
theorem list_mbox {ops : Array Oper} {rest : List Oper} {o : Oper} {ac : Act} {Q : Exit → Act → World → Prop} {W : World} (hgd : o.guard = none) (x : Operand) (ho : o.op = .box 31 x) {m : Ms} {s : Sl} (hx : ac.eval x = msV m s)
    (k : ∀ W', Hid (MB W.heap.size m s W') → Hid (Below W.heap.size W W') → wpList Try.prog ops Q rest (ac.put o.dst (.pointer (some ⟨W.heap.size, 0, none⟩))) W') : wpList Try.prog ops Q (o :: rest) ac W := by
  refine wpList_plain hgd fun K hK => ?_
  unfold Oper.wp
  rw [mbox_run x ho hx]
  exact hK _ _ (k _ (World.alloc_heap_new W _) ((Below.refl _ W).alloc (Nat.le_refl _) _))
/-- a message is loaded, where the guard lets it -/
theorem list_mloadg {ops : Array Oper} {rest : List Oper} {o : Oper} {ac : Act} {Q : Exit → Act → World → Prop} {W : World} (hw : Region.wanted o (yielded ops ac.tmps) = true) (x : Operand) (ho : o.op = .load 31 x) {b : Nat} {m : Ms} {s : Sl} (hx : ac.eval x = .pointer (some ⟨b, 0, none⟩)) (h : MB b m s W)
    (k : wpList Try.prog ops Q rest (ac.put o.dst (msV m s)) W) : wpList Try.prog ops Q (o :: rest) ac W := by
  unfold wpList
  rw [if_pos hw]
  left
  unfold Oper.wp
  rw [mload_run x ho hx h]
  exact k
theorem bits_xor8 (a b : Nat) (ha : a < 256) (hb : b < 256) : bits .xor .u8 (a : Int) (b : Int) = ((a ^^^ b : Nat) : Int) ∧ a ^^^ b < 256 := by
  have ha' : a % 2 ^ IntKind.u8.bits = a := Nat.mod_eq_of_lt ha
  have hb' : b % 2 ^ IntKind.u8.bits = b := Nat.mod_eq_of_lt hb
  have h : a ^^^ b < 256 := Nat.xor_lt_two_pow (n := 8) ha hb
  refine ⟨?_, h⟩
  simp only [bits, BitVec.ofInt_natCast, BitVec.toNat_xor, BitVec.toNat_ofNat, ha', hb']
  rw [IntKind.wrap_u8]
  omega
set_option maxRecDepth 100000 in
set_option maxHeartbeats 16000000 in
theorem back_any (m : Ms) (s : Sl) (a b : Int) (ha : -9223372036854775808 ≤ a ∧ a < 9223372036854775808) (hb : -9223372036854775808 ≤ b ∧ b < 9223372036854775808) (w : World) (hok : MOk w m s) (hbd : m.lost.length ≤ 1048576 ∧ m.hv.length ≤ 1048576 ∧ m.rt.path.length ≤ 1048576 ∧ m.rt.marks.length ≤ 1048576 ∧ m.rt.clus.length ≤ 1048576) :
    Calls Try.prog 4 #[msV m s, .int .i64 a, .int .i64 b] w fun e w' => e = .returned (.bool true) ∧ Below w.heap.size w w' := by
  have HOK : Hid (MOk w m s) := hok
  have HBD : Hid (m.lost.length ≤ 1048576 ∧ m.hv.length ≤ 1048576 ∧ m.rt.path.length ≤ 1048576 ∧ m.rt.marks.length ≤ 1048576 ∧ m.rt.clus.length ≤ 1048576) := hbd
  have HIN : Hid (InM m) := ⟨hok.il, hok.ih, ⟨hok.r.n0, hok.r.n1⟩⟩
  obtain ⟨t, ht⟩ : ∃ t, decide (m.lost.length + m.hv.length + m.rt.path.length + m.rt.marks.length + m.rt.clus.length ≤ 20000) = t := ⟨_, rfl⟩
  have HT : Hid (decide (m.lost.length + m.hv.length + m.rt.path.length + m.rt.marks.length + m.rt.clus.length ≤ 20000) = t) := ht
  clear hok hbd ht
  go_enter Try.func4, Try.ntmps4
  go_wp2_with (refine list_mbox rfl _ rfl (m := m) (s := s) rfl ?_)
  intro w0 hm0 hb0
  obtain ⟨b0, hb0e⟩ : ∃ k, w.heap.size = k := ⟨_, rfl⟩
  rw [hb0e] at hm0 ⊢
  have HM0 : Hid (MB b0 m s w0) := hm0
  have HB0 : Hid (Below w.heap.size w w0) := hb0
  have HOK0 : Hid (MOk w0 m s) := HOK.out.bel hb0.out
  clear hm0 hb0 hb0e HOK
  go_wp2_with (refine list_mload rfl _ rfl (b := b0) rfl HM0.out ?_)
  refine (small_any m s HBD.out t HT.out w0).mono ?_
  rintro e w1 ⟨rfl, hb1⟩
  have HM1 : Hid (MB b0 m s w1) := HM0.out.blk (hb1.block b0 HM0.out.lt)
  have HB1 : Hid (Below w.heap.size w w1) := HB0.out.trans (hb1.mono HB0.out.size)
  have HOK1 : Hid (MOk w1 m s) := HOK0.out.bel hb1
  clear hb1 HM0 HB0 HOK0
  cases t with
  | false =>
    go_wp2_with fail
    go_ret
    exact ⟨rfl, HB1.out⟩
  | true =>
    have hsum := of_decide_eq_true HT.out
    obtain ⟨er, her⟩ : ∃ er, encE m = er := ⟨_, rfl⟩
    have HER : Hid (encE m = er) := her
    obtain ⟨bs, hbs⟩ : ∃ bs, encB m = bs := ⟨_, rfl⟩
    have HBS : Hid (encB m = bs) := hbs
    have HENC := encode_any m s w1 HOK1.out ⟨by omega, by omega⟩ bs er hbs her
    clear her hbs hsum
    go_wp2_with (refine list_mload rfl _ rfl (b := b0) rfl HM1.out ?_)
    refine HENC.mono ?_
    rintro e w2 ⟨v2, rfl, ho2, hb2⟩
    have HM2 : Hid (MB b0 m s w2) := HM1.out.blk (hb2.block b0 HM1.out.lt)
    have HB2 : Hid (Below w.heap.size w w2) := HB1.out.trans (hb2.mono HB1.out.size)
    have HOK2 : Hid (MOk w2 m s) := HOK1.out.bel hb2
    obtain ⟨va, vc, hv2, hcap, -⟩ := ho2.form
    obtain ⟨L, hL⟩ : ∃ L, bs.length = L := ⟨_, rfl⟩
    rw [hL] at hv2 hcap
    subst hv2
    have HLL : Hid (bs.length = L) := hL
    have HO2 : Hid (OwnL E8 w1.heap.size w2 (.slice va L vc) bs) := ho2
    clear hb2 ho2 hL HENC HM1 HB1 HOK1
    by_cases he0 : er = 0
    · subst he0
      have HD : Hid (dec bs = (m, 0)) := by show _ = _; rw [← HBS.out]; exact dec_back HER.out HIN.out
      have HU : Hid (∀ d ∈ bs, d < 256) := by rw [← HBS.out]; exact encB_u8 m
      have hL9 : 9 ≤ L ∧ L ≤ 1024 ∧ frE bs = 0 := by
        rcases dec_cases bs with ⟨e', he', hne⟩ | ⟨m', kd, body, he', h9, hf, -⟩
        · have h5 := HD.out; rw [he'] at h5; cases h5; exact absurd rfl hne
        · have := (frE_ok (by omega) hf).1
          have h5 := HLL.out
          exact ⟨by omega, by omega, hf⟩
      obtain ⟨h9, h1024, hfr⟩ := hL9
      have HFR : Hid (frE bs = 0) := hfr
      clear hfr
      go_wp2_with fail
      refine (decode_any va L vc bs HLL.out hcap w2 HO2.out.lst.1 HU.out).mono ?_
      rintro e w3 ⟨s2, rfl, hmo3, hb3⟩
      rw [HD.out] at hmo3 ⊢
      dsimp only at hmo3 ⊢
      have HM3 : Hid (MB b0 m s w3) := HM2.out.blk (hb3.block b0 HM2.out.lt)
      have HB3 : Hid (Below w.heap.size w w3) := HB2.out.trans (hb3.mono HB2.out.size)
      have HOK3 : Hid (MOk w3 m s) := HOK2.out.bel hb3
      have HMO3 : Hid (MO w2.heap.size w3 m s2) := hmo3
      have HO3 : Hid (OwnL E8 w1.heap.size w3 (.slice va L vc) bs) := HO2.out.bel hb3
      clear hb3 hmo3 HM2 HB2 HOK2 HO2
      go_wp2_with (refine list_mstore rfl _ _ rfl (b := w3.heap.size) (m := m) (s := s2) rfl rfl (mb_zero rfl rfl).1 ?_)
      intro w4 hm4 hk4
      obtain ⟨hz3, hb3⟩ := mb_zero (w := w3) rfl rfl
      have hk24 : Below w3.heap.size w3 w4 := hb3.trans (hk4.out.below (Nat.le_refl _) hb3.size)
      have HM4 : Hid (MB b0 m s w4) := HM3.out.blk (hk24.block b0 HM3.out.lt)
      have HB4 : Hid (Below w.heap.size w w4) := HB3.out.trans (hk24.mono HB3.out.size)
      have HOK4 : Hid (MOk w4 m s) := HOK3.out.bel hk24
      have HMO4 : Hid (MO w2.heap.size w4 m s2) := HMO3.out.blk (fun g _ _ hl => hk24.block g hl)
      have HO4 : Hid (OwnL E8 w1.heap.size w4 (.slice va L vc) bs) := HO3.out.bel hk24
      obtain ⟨bq, hbq⟩ : ∃ k, w3.heap.size = k := ⟨_, rfl⟩
      rw [hbq] at hm4 ⊢
      have HQ4 : Hid (MB bq m s2 w4) := hm4
      clear hm4 hk4 hz3 hb3 HM3 HB3 HOK3 HMO3 HO3 hk24 hbq
      have hLi : ¬ (1024 : Int) < (L : Int) := by omega
      go_wp2_with (first | (refine list_mloadg (by rfl) _ rfl (b := b0) rfl HM4.out ?_) | (refine list_mloadg (by rfl) _ rfl (b := bq) rfl HQ4.out ?_))
      refine (msame_any m s s2 w4 HOK4.out HMO4.out.ok).mono ?_
      rintro e w5 ⟨rfl, hb5⟩
      have HB5 : Hid (Below w.heap.size w w5) := HB4.out.trans (hb5.mono HB4.out.size)
      have HO5 : Hid (OwnL E8 w1.heap.size w5 (.slice va L vc) bs) := HO4.out.bel hb5
      clear hb5 HM4 HB4 HOK4 HMO4 HO4 HQ4
      obtain ⟨ho6, hb6⟩ := own_made0 E8 (W := w5) rfl
      have HO6 : Hid (OwnL E8 w5.heap.size (w5.alloc (Obj.cells #[] 5)) (.slice (some ⟨w5.heap.size, 0, none⟩) 0 0) []) := ho6
      have HP6 : Hid (Pc8 (w5.alloc (Obj.cells #[] 5)) va L vc bs) := OwnL.pc8 (HO5.out.bel hb6)
      have HB6 : Hid (Below w.heap.size w (w5.alloc (Obj.cells #[] 5))) := HB5.out.trans (hb6.mono HB5.out.size)
      have hN6 : w5.heap.size ≤ (w5.alloc (Obj.cells #[] 5)).heap.size := hb6.size
      have hl6 : ([] : List Nat).length + L ≤ 1099511627775 := by simp; omega
      have HS5 : Hid (w.heap.size ≤ w5.heap.size) := HB5.out.size
      clear ho6 hb6
      go_wp2_with (at_builtin; refine list_appL E8 rfl _ _ 22 rfl rfl w5.heap.size (.slice (some ⟨w5.heap.size, 0, none⟩) 0 0) [] bs va L vc _ hl6 rfl HO6.out rfl HP6.out.l HP6.out.nil HP6.out.len hN6 ?_)
      intro v7 w7 ho7 hg7 hat7
      have HO7 : Hid (OwnL E8 w5.heap.size w7 v7 bs) := ho7.out
      have HB7 : Hid (Below w.heap.size w w7) := HB6.out.grown hg7.out HB6.out.size (fun g e => by cases e; exact HS5.out)
      obtain ⟨va7, vc7, hv7, hcap7, hnil7, hblk7⟩ := HO7.out.form
      rw [HLL.out] at hv7 hcap7 hnil7
      subst hv7
      clear ho7 hg7 hat7 HO6 HP6 HB6 hN6 HB5 HO5
      obtain ⟨g, rfl⟩ : ∃ g, va7 = some ⟨g, 0, none⟩ := by
        rcases HO7.out.row.2 with ⟨h1, h2⟩ | ⟨g, c, cur, h1, h2, h3, h4, h5⟩
        · rw [HLL.out] at h2; omega
        · cases h1; exact ⟨g, rfl⟩
      obtain ⟨i, hi⟩ : ∃ i, md a L = i := ⟨_, rfl⟩
      obtain ⟨j, hj⟩ : ∃ j, md b 255 = j := ⟨_, rfl⟩
      have hiL : i < L := by rw [← hi]; exact md_lt (by omega)
      have hj5 : j < 255 := by rw [← hj]; exact md_lt (by omega)
      have HI : Hid (md a L = i) := hi
      have HJ : Hid (md b 255 = j) := hj
      have hil : i < bs.length := by rw [HLL.out]; exact hiL
      obtain ⟨hc7, hf7, hgl, hgN⟩ := HO7.out.at0
      obtain ⟨x, hx⟩ : ∃ x, bs[i] = x := ⟨_, rfl⟩
      have hx8 : x < 256 := by rw [← hx]; exact HU.out _ (List.getElem_mem hil)
      have c0 : w7.cell? ⟨g, i, none⟩ = some (.int .u8 (x : Int)) := by
        have := hc7 i hil 0 (by decide)
        rw [hx] at this
        simpa [E8] using this
      have f0 := hf7 i
      obtain ⟨y, hy⟩ : ∃ y, x ^^^ (1 + j) = y := ⟨_, rfl⟩
      obtain ⟨hxo, hy8⟩ := bits_xor8 x (1 + j) hx8 (by omega)
      rw [hy] at hxo hy8
      have hne : y ≠ bs[i] := by
        rw [hx, ← hy]
        intro e
        have e2 : (1 + j) ^^^ x = 0 ^^^ x := by rw [Nat.xor_comm (1 + j) x, e, Nat.zero_xor]
        have := xor_inj e2
        omega
      have HNE : Hid (frE (bs.set i y) ≠ 0) := one_byte HU.out (by rw [HLL.out]; exact h9) HFR.out hil hy8 hne
      have wj : IntKind.i64.wrap (1 + (j : Int)) = ((1 + j : Nat) : Int) := by rw [IntWalk.i64_in _ (by omega)]; omega
      have wu : IntKind.u8.wrap ((1 + j : Nat) : Int) = ((1 + j : Nat) : Int) := by rw [IntKind.wrap_u8]; omega
      have hii : (i : Int) < (L : Int) := by omega
      have ii0 : (0 : Int) ≤ (i : Int) := by omega
      clear hi hj hx hy hc7 hf7 hne
      go_wp2_with fail
      go_still_tail 13, (by kernel_rfl)
      still_call (mod_any a ha L (by omega) (by omega) i HI.out _)
      repeat still_step
      still_call (mod_any b hb 255 (by decide) (by decide) j HJ.out _)
      repeat still_step
      refine wpStill_nil ?_
      go_wp2_with fail
      have hxo2 : bits .xor .u8 (x : Int) (1 + (j : Int)) = (y : Int) := by
        rw [← hxo]
        congr 1
      rw [hxo2]
      have ho8 : OwnL E8 w5.heap.size (w7.setCell ⟨g, i, none⟩ (.int .u8 (y : Int))) (.slice (some ⟨g, 0, none⟩) L vc7) (bs.set i y) := by
        have := HO7.out.setc (i := i) (j := 0) hil (by decide) (.int .u8 (y : Int)) y (by simp [E8])
        simpa [E8] using this
      have hbs8 : Below w.heap.size w (w7.setCell ⟨g, i, none⟩ (.int .u8 (y : Int))) := HB7.out.setCell (p := ⟨g, i, none⟩) (by show w.heap.size ≤ g; have := HS5.out; omega) _
      obtain ⟨w8, hw8⟩ : ∃ w8, (w7.setCell ⟨g, i, none⟩ (.int .u8 (y : Int))).drew = w8 := ⟨_, rfl⟩
      have HO8 : Hid (OwnL E8 w5.heap.size w8 (.slice (some ⟨g, 0, none⟩) L vc7) (bs.set i y)) := by rw [← hw8]; exact ho8.bel (drew_bel _)
      have HB8 : Hid (Below w.heap.size w w8) := by rw [← hw8]; exact hbs8.trans ((drew_bel _).mono hbs8.size)
      rw [hw8]
      clear hw8 ho8 hbs8 hxo hxo2 c0 f0
      have hlen8 : (bs.set i y).length = L := by rw [List.length_set]; exact HLL.out
      obtain ⟨m9, er9, hd9⟩ : ∃ m er, dec (bs.set i y) = (m, er) := ⟨_, _, rfl⟩
      have he9 : er9 ≠ 0 := by
        rcases dec_cases (bs.set i y) with ⟨e', he', hne⟩ | ⟨m', kd, body, he', h9', hf, -⟩
        · rw [hd9] at he'; cases he'; exact hne
        · exact absurd hf HNE.out
      have HD9 : Hid (dec (bs.set i y) = (m9, er9)) := hd9
      have he9b : (er9 != 0) = true := by simpa using he9
      refine (decode_any (some ⟨g, 0, none⟩) L vc7 (bs.set i y) hlen8 hcap7 w8 HO8.out.lst.1 (set_u8 HU.out i hy8)).mono ?_
      rintro e w9 ⟨s9, rfl, hmo9, hb9⟩
      rw [HD9.out]
      dsimp only
      have HB9 : Hid (Below w.heap.size w w9) := HB8.out.trans (hb9.mono HB8.out.size)
      clear hb9 hmo9 HB8 HO8 hd9 he9
      go_wp2_with fail
      go_ret
      exact ⟨rfl, HB9.out⟩
    · have he0b : (er != 0) = true := by simpa using he0
      have hnil : bs = [] := by rw [← HBS.out]; unfold encB; rw [HER.out, if_neg he0]
      have hL0 : L = 0 := by rw [← HLL.out, hnil]; rfl
      subst hL0
      go_wp2_with fail
      go_ret
      exact ⟨rfl, HB2.out⟩
end Go.Proofs.Ytjnjjkhdmdjaeaa.Pv
