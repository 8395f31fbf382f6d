/- What Decode answers. -/
import Derived.Test.YtanboekdfdafmaaPwN
namespace Go.Proofs.Ytanboekdfdafmaa.Pv
open Go.ChangeShapes Go.WideShapes Go.ChangeAt Go.RowKit Go.Joins Go.Proofs.Ytanboekdfdafmaa.PM Go.Proofs.Ytanboekdfdafmaa.Ask Go.Proofs.Ytanboekdfdafmaa.Ge
set_option linter.unusedVariables false

theorem mb_zero {w W : World} {k : Nat} (hk : w.heap.size = k) (h : w.alloc (Obj.cells #[.int .i64 0, .int .i64 0, .int .i64 0, .int .i64 0, .int .i64 0, .slice none 0 0, .slice none 0 0, .int .u32 0, .int .i64 0, .slice none 0 0, .int .i64 0, .int .i64 0, .int .i64 0, .int .u32 0, .slice none 0 0, .slice none 0 0, .int .i64 0] 54) = W) : MB k ms0 sZ W ∧ Below w.heap.size w W := by
  subst h hk
  exact ⟨World.alloc_heap_new w _, (Below.refl _ _).alloc (Nat.le_refl _) _⟩
theorem dec_none {xs : List Nat} {kd : Nat} (h : frE xs = 0) (hk : xs[6]? = some kd) (hr : readB kd (xs.drop 9) = none) : dec xs = (ms0, 4) := by
  unfold dec
  rw [h, if_neg (by simp), hk]
  simp only [Option.getD_some]
  rw [hr]
theorem dec_some {xs body : List Nat} {kd : Nat} {m : Ms} (h : frE xs = 0) (hk : xs[6]? = some kd) (hr : readB kd (xs.drop 9) = some (m, body)) : dec xs = if encE m = 0 ∧ encB m = frame kd body then (m, 0) else (ms0, 4) := by
  unfold dec
  rw [h, if_neg (by simp), hk]
  simp only [Option.getD_some]
  rw [hr]
theorem dec_post {w W : World} {xs : List Nat} {er : Int} (he : dec xs = (ms0, er)) (hW : Below w.heap.size w W) : DecPost w (dec xs) (.returned (.tuple #[msV ms0 sZ, .int .i64 er])) W := by
  rw [he]
  exact ⟨sZ, rfl, mo_zero _ _ _ rfl rfl rfl, hW⟩
set_option maxRecDepth 100000 in
set_option maxHeartbeats 16000000 in
theorem decode_bad (va : Option Addr) (n cap : Nat) (xs : List Nat) (w : World) (er : Int) (her : (er != 0) = true) (hd : dec xs = (ms0, er)) (HC : ∀ W, Below w.heap.size w W → Calls Try.prog 71 #[.slice va n cap] W fun e w' => e = .returned (.int .i64 er) ∧ Below W.heap.size W w') :
    Calls Try.prog 59 #[.slice va n cap] w (DecPost w (dec xs)) := by
  have HD : Hid (dec xs = (ms0, er)) := hd
  have HC2 : Hid (∀ W, Below w.heap.size w W → Calls Try.prog 71 #[.slice va n cap] W fun e w' => e = .returned (.int .i64 er) ∧ Below W.heap.size W w') := HC
  clear hd HC
  go_enter Try.func59, Try.ntmps59
  go_upto_region 1 with fail
  obtain ⟨w0, hw0⟩ : ∃ w0, w.alloc (Obj.cells #[.int .i64 0, .int .i64 0, .int .i64 0, .int .i64 0, .int .i64 0, .slice none 0 0, .slice none 0 0, .int .u32 0, .int .i64 0, .slice none 0 0, .int .i64 0, .int .i64 0, .int .i64 0, .int .u32 0, .slice none 0 0, .slice none 0 0, .int .i64 0] 54) = w0 := ⟨_, rfl⟩
  obtain ⟨bd, hbd⟩ : ∃ k, w.heap.size = k := ⟨_, rfl⟩
  obtain ⟨hm0, hb0⟩ := mb_zero hbd hw0
  rw [hw0, hbd]
  have HM0 : Hid (MB bd ms0 sZ w0) := hm0
  have HB0 : Hid (Below w.heap.size w w0) := hb0
  have hbdw : w.heap.size ≤ bd := by omega
  clear hw0 hb0 hbd hm0
  go_wp2_with fail
  refine (HC2.out w0 HB0.out).mono ?_
  rintro e w1 ⟨rfl, hb1⟩
  have HM1 : Hid (MB bd ms0 sZ w1) := HM0.out.blk (hb1.block bd HM0.out.lt)
  have HB1 : Hid (Below w.heap.size w w1) := HB0.out.trans (hb1.mono HB0.out.size)
  clear hb1 HM0 HB0 HC2
  go_wp2_with (refine list_mstore rfl _ _ rfl (b := bd) (m := ms0) (s := sZ) rfl rfl HM1.out ?_)
  intro w2 hm2 hk2
  have HQ : Hid (DecPost w (dec xs) (.returned (.tuple #[msV ms0 sZ, .int .i64 er])) w2) := dec_post HD.out (HB1.out.trans (hk2.out.below hbdw HB1.out.size))
  clear hk2 HM1 HB1 HD
  go_wp2_with fail
  exact bodyPost_ret (dec_res hm2.out rfl rfl) rfl HQ.out
set_option maxRecDepth 100000 in
set_option maxHeartbeats 16000000 in
theorem decode_run (b o cap : Nat) (xs : List Nat) (n : Nat) (hn : xs.length = n) (h9 : 9 ≤ n) (h10 : n ≤ 1024) (hcap : n ≤ cap) (w : World) (hl : Lst E8 w (some ⟨b, o, none⟩) xs) (hu : ∀ d ∈ xs, d < 256) (hfr : frE xs = 0) (kd : Nat) (hk6 : xs[6]? = some kd) (hkk : 1 ≤ kd ∧ kd ≤ 4) :
    Calls Try.prog 59 #[.slice (some ⟨b, o, none⟩) n cap] w (DecPost w (dec xs)) := by
  have HL : Hid (Lst E8 w (some ⟨b, o, none⟩) xs) := hl
  have HU : Hid (∀ d ∈ xs, d < 256) := hu
  have HN : Hid (xs.length = n) := hn
  have HFR : Hid (frE xs = 0) := hfr
  have HK6 : Hid (xs[6]? = some kd) := hk6
  have hbw : b < w.heap.size := by obtain ⟨b', o', e, h1, -⟩ := hl.cells 0 (by omega); cases e; exact h1
  clear hl hu hn hfr hk6
  go_enter Try.func59, Try.ntmps59
  go_upto_region 1 with fail
  obtain ⟨w0, hw0⟩ : ∃ w0, w.alloc (Obj.cells #[.int .i64 0, .int .i64 0, .int .i64 0, .int .i64 0, .int .i64 0, .slice none 0 0, .slice none 0 0, .int .u32 0, .int .i64 0, .slice none 0 0, .int .i64 0, .int .i64 0, .int .i64 0, .int .u32 0, .slice none 0 0, .slice none 0 0, .int .i64 0] 54) = w0 := ⟨_, rfl⟩
  obtain ⟨bd, hbd⟩ : ∃ k, w.heap.size = k := ⟨_, rfl⟩
  obtain ⟨hm0, hb0⟩ := mb_zero hbd hw0
  rw [hw0, hbd]
  have HM0 : Hid (MB bd ms0 sZ w0) := hm0
  have HB0 : Hid (Below w.heap.size w w0) := hb0
  have hbdw : w.heap.size ≤ bd := by omega
  clear hw0 hb0 hbd hm0
  go_wp2_with fail
  refine (fcheck_any b o cap xs n HN.out h9 hcap w0 (HL.out.bel HB0.out) HU.out 0 HFR.out).mono ?_
  rintro e w1 ⟨rfl, hb1⟩
  have HM1 : Hid (MB bd ms0 sZ w1) := HM0.out.blk (hb1.block bd HM0.out.lt)
  have HB1 : Hid (Below w.heap.size w w1) := HB0.out.trans (hb1.mono HB0.out.size)
  clear hb1 HM0 HB0
  have HKO := kindOf_any (some ⟨b, o, none⟩) cap xs n HN.out (by omega) (by omega) kd HK6.out (by omega) w1 (HL.out.bel HB1.out)
  have hc9 : (9 : Int) ≤ (cap : Int) := by omega
  have hc9n : 9 ≤ cap := by omega
  have h9i : (9 : Int) ≤ (n : Int) := by omega
  have hs1 := HB1.out.size
  have HRB : Hid (∀ a c, (a = some ⟨b, o + 9, none⟩ ∨ (a = some ⟨b, o, none⟩ ∧ n = 9)) → n - 9 ≤ c → Calls Try.prog 73 #[.int .i64 (kd : Int), .slice a (n - 9 : Nat) c] w1 (RbPost w1 (readB kd (xs.drop 9)))) := fun a c ha hc => by
    have hlen : (xs.drop 9).length = n - 9 := by rw [List.length_drop, HN.out]
    have hl1 : Lst E8 w1 (some ⟨b, o + 9, none⟩) (xs.drop 9) := lst_tail (HL.out.bel HB1.out)
    refine read_any kd hkk a (n - 9) c (xs.drop 9) (by omega) w1 ⟨⟨?_, ?_, hlen⟩, hc, ?_, fun d hd => HU.out d (List.mem_of_mem_drop hd)⟩
    · rcases ha with rfl | ⟨rfl, h0⟩
      · exact hl1
      · exact ⟨by rw [hlen]; omega, fun i hi => absurd hi (by rw [hlen]; omega)⟩
    · intro e
      rcases ha with rfl | ⟨rfl, h0⟩ <;> cases e
    · intro ad e
      rcases ha with rfl | ⟨rfl, h0⟩ <;> (cases e; show b < w1.heap.size; omega)
  go_wp2_with fail
  refine HKO.mono ?_
  rintro e w5 ⟨rfl, hw5⟩
  rw [hw5]
  clear hw5 w5 HKO
  by_cases hc : cap = 9
  case' pos =>
    subst hc
    obtain rfl : n = 9 := by omega
    have HC5 := HRB.out (some ⟨b, o, none⟩) 0 (.inr ⟨rfl, rfl⟩) (by omega)
    rw [show (9 : Nat) - 9 = 0 from rfl] at HC5
    clear HRB
    go_wp2_with fail
  case' neg =>
    have hcn : ¬ cap = 9 := hc
    have hci : ¬ (cap : Int) = 9 := by omega
    have HC5 := HRB.out (some ⟨b, o + 9, none⟩) (cap - 9) (.inl rfl) (by omega)
    clear HRB
    go_wp2_with fail
  all_goals
    refine HC5.mono ?_
    intro e w2 hpost
    clear HC5
    cases hx : readB kd (xs.drop 9) with
    | none =>
      rw [hx] at hpost
      obtain ⟨rfl, hb2⟩ := hpost
      have HX : Hid (readB kd (xs.drop 9) = none) := hx
      have HM2 : Hid (MB bd ms0 sZ w2) := HM1.out.blk (hb2.block bd HM1.out.lt)
      have HB2 : Hid (Below w.heap.size w w2) := HB1.out.trans (hb2.mono hs1)
      clear hb2 hx HM1 HB1
      go_wp2_with (refine list_mstore rfl _ _ rfl (b := w2.heap.size) (m := ms0) (s := sZ) rfl rfl (mb_zero rfl rfl).1 ?_)
      intro w4 hm4 hk4
      obtain ⟨hz3, hb3⟩ := mb_zero (w := w2) rfl rfl
      have hlt := HM2.out.lt
      have HM4 : Hid (MB bd ms0 sZ w4) := (HM2.out.blk (hb3.block bd hlt)).blk (hk4.out.block bd (by have := hb3.size; omega) (by omega))
      have HB4 : Hid (Below w.heap.size w w4) := HB2.out.trans ((hb3.mono HB2.out.size).trans (hk4.out.below HB2.out.size (Nat.le_trans HB2.out.size hb3.size)))
      clear hm4 hk4 hz3 hb3 HM2 HB2 hlt
      obtain ⟨bq, hbq⟩ : ∃ k, w2.heap.size = k := ⟨_, rfl⟩
      rw [hbq]
      clear hbq
      go_wp2_with (refine list_mstore rfl _ _ rfl (b := bd) (m := ms0) (s := sZ) rfl rfl HM4.out ?_)
      intro w5 hm5 hk5
      have HQ : Hid (DecPost w (dec xs) (.returned (.tuple #[msV ms0 sZ, .int .i64 4])) w5) := dec_post (dec_none HFR.out HK6.out HX.out) (HB4.out.trans (hk5.out.below hbdw HB4.out.size))
      clear hk5 HM4 HB4
      go_wp2_with fail
      exact bodyPost_ret (dec_res hm5.out rfl rfl) rfl HQ.out
    | some q =>
      obtain ⟨m, body⟩ := q
      rw [hx] at hpost
      obtain ⟨s, ba, bn, bc, rfl, hp2, hmo2, hb2⟩ := hpost
      have HX : Hid (readB kd (xs.drop 9) = some (m, body)) := hx
      obtain ⟨z1, z2, z3, z4⟩ := readB_len hx
      rw [List.length_drop, HN.out] at z1 z2 z3
      have HBU : Hid (∀ d ∈ body, d < 256) := z4 (fun d hd => HU.out d (List.mem_of_mem_drop hd))
      obtain ⟨er, her⟩ : ∃ er, encE m = er := ⟨_, rfl⟩
      have HER : Hid (encE m = er) := her
      obtain ⟨bs, hbs⟩ : ∃ bs, encB m = bs := ⟨_, rfl⟩
      have HBS : Hid (encB m = bs) := hbs
      obtain ⟨t, ht⟩ : ∃ t, decide (bs = frame kd body) = t := ⟨_, rfl⟩
      have HT : Hid (decide (bs = frame kd body) = t) := ht
      have HBSU : Hid (∀ d ∈ bs, d < 256) := by rw [← hbs]; exact encB_u8 m
      have hbn : bn ≤ 1024 := by have := hp2.len; omega
      have HZL : Hid (m.lost.length ≤ 100000 ∧ m.hv.length ≤ 100000) := ⟨by omega, by omega⟩
      have HM2 : Hid (MB bd ms0 sZ w2) := HM1.out.blk (hb2.block bd HM1.out.lt)
      have HB2 : Hid (Below w.heap.size w w2) := HB1.out.trans (hb2.mono hs1)
      have HMO2 : Hid (MO w.heap.size w2 m s) := hmo2.mono hs1
      have HP2 : Hid (Pc8 w2 ba bn bc body) := hp2
      have HOD : Hid (∀ g, Mown s g → g ≠ bd) := fun g hg => by have := (hmo2.rng g hg).1; have := HM1.out.lt; omega
      have HOL : Hid (∀ g, Mown s g → g < w2.heap.size) := fun g hg => (hmo2.rng g hg).2
      clear hb2 hx HM1 HB1 z1 z2 z3 z4 her hbs ht hmo2 hp2
      go_wp2_with (refine list_mstore rfl _ _ rfl (b := w2.heap.size) (m := m) (s := s) rfl rfl (mb_zero rfl rfl).1 ?_)
      intro w4 hm4 hk4
      obtain ⟨hz3, hb3⟩ := mb_zero (w := w2) rfl rfl
      have hlt := HM2.out.lt
      have hk24 : Below w2.heap.size w2 w4 := hb3.trans (hk4.out.below (Nat.le_refl _) hb3.size)
      have HM4 : Hid (MB bd ms0 sZ w4) := HM2.out.blk (hk24.block bd hlt)
      have HB4 : Hid (Below w.heap.size w w4) := HB2.out.trans (hk24.mono HB2.out.size)
      have HMO4 : Hid (MO w.heap.size w4 m s) := HMO2.out.blk (fun g _ _ hl => hk24.block g hl)
      have HP4 : Hid (Pc8 w4 ba bn bc body) := HP2.out.bel hk24
      have HOL4 : Hid (∀ g, Mown s g → g < w4.heap.size) := fun g hg => Nat.lt_of_lt_of_le (HOL.out g hg) hk24.size
      obtain ⟨bq, hbq⟩ : ∃ k, w2.heap.size = k := ⟨_, rfl⟩
      rw [hbq] at hm4 ⊢
      have HQ4 : Hid (MB bq m s w4) := hm4
      have hdq : ¬ bd = bq := by omega
      clear hm4 hk4 hz3 hb3 HM2 HB2 hlt HMO2 HP2 HOL hk24 hbq
      go_wp2_with (refine list_mload rfl _ rfl (b := bq) rfl HQ4.out ?_)
      refine (encode_any m s w4 HMO4.out.ok HZL.out bs er HBS.out HER.out).mono ?_
      rintro e w5 ⟨v5, rfl, ho5, hb5⟩
      have HM5 : Hid (MB bd ms0 sZ w5) := HM4.out.blk (hb5.block bd HM4.out.lt)
      have HQ5 : Hid (MB bq m s w5) := HQ4.out.blk (hb5.block bq HQ4.out.lt)
      have HB5 : Hid (Below w.heap.size w w5) := HB4.out.trans (hb5.mono HB4.out.size)
      have HMO5 : Hid (MO w.heap.size w5 m s) := HMO4.out.blk (fun g _ _ hl => hb5.block g hl)
      have HP5 : Hid (Pc8 w5 ba bn bc body) := HP4.out.bel hb5
      obtain ⟨va5, vc5, hv5, -⟩ := ho5.form
      obtain ⟨L5, hL5⟩ : ∃ L, bs.length = L := ⟨_, rfl⟩
      rw [hL5] at hv5
      subst hv5
      have HO5 : Hid (OwnL E8 w4.heap.size w5 (.slice va5 L5 vc5) bs) := ho5
      clear hb5 HM4 HQ4 HB4 HMO4 HP4 ho5
      by_cases he0 : er = 0
      · subst he0
        go_wp2_with fail
        refine (framed_any kd (by omega) ba bn bc body (by omega) w5 HP5.out HBU.out).mono ?_
        rintro e w6 ⟨v6, rfl, ho6, hb6⟩
        have HM6 : Hid (MB bd ms0 sZ w6) := HM5.out.blk (hb6.block bd HM5.out.lt)
        have HQ6 : Hid (MB bq m s w6) := HQ5.out.blk (hb6.block bq HQ5.out.lt)
        have HB6 : Hid (Below w.heap.size w w6) := HB5.out.trans (hb6.mono HB5.out.size)
        have HMO6 : Hid (MO w.heap.size w6 m s) := HMO5.out.blk (fun g _ _ hl => hb6.block g hl)
        have hl5 : Lst E8 w6 va5 bs := (HO5.out.lst.1).bel hb6
        obtain ⟨va6, vc6, hv6, -⟩ := ho6.form
        obtain ⟨L6, hL6⟩ : ∃ L, (frame kd body).length = L := ⟨_, rfl⟩
        rw [hL6] at hv6
        subst hv6
        have HEQ := beq_any va5 vc5 va6 vc6 bs (frame kd body) L5 L6 hL5 hL6 w6 hl5 ho6.lst.1 HBSU.out (frame_u8 kd HBU.out) t HT.out
        clear hb6 HM5 HQ5 HB5 HMO5 HP5 HO5 ho6 hl5 hL6
        go_wp2_with fail
        refine HEQ.mono ?_
        rintro e w7 ⟨rfl, hw7⟩
        rw [hw7]
        clear hw7 w7 HEQ
        cases t with
        | true =>
          have HDE : Hid (dec xs = (m, 0)) := by
            show _ = _
            rw [dec_some HFR.out HK6.out HX.out, if_pos ⟨HER.out, by rw [HBS.out]; exact of_decide_eq_true HT.out⟩]
          go_wp2_with (first | (refine list_mload rfl _ rfl (b := bq) rfl HQ6.out ?_) | (refine list_mstore rfl _ _ rfl (b := bd) (m := m) (s := s) rfl rfl HM6.out ?_))
          intro w7 hm7 hk7
          have HQ : Hid (DecPost w (dec xs) (.returned (.tuple #[msV m s, .int .i64 0])) w7) := by
            show DecPost _ _ _ _
            rw [HDE.out]
            exact ⟨s, rfl, HMO6.out.blk (fun g hg _ hl => hk7.out.block g hl (HOD.out g hg)), HB6.out.trans (hk7.out.below hbdw HB6.out.size)⟩
          clear hk7 HM6 HQ6 HB6 HMO6
          go_wp2_with fail
          exact bodyPost_ret (dec_res hm7.out rfl rfl) rfl HQ.out
        | false =>
          have HDE : Hid (dec xs = (ms0, 4)) := by
            show _ = _
            rw [dec_some HFR.out HK6.out HX.out, if_neg (by rintro ⟨-, h2⟩; rw [HBS.out] at h2; exact absurd h2 (of_decide_eq_false HT.out))]
          go_wp2_with (refine list_mstore rfl _ _ rfl (b := bd) (m := ms0) (s := sZ) rfl rfl HM6.out ?_)
          intro w7 hm7 hk7
          have HQ : Hid (DecPost w (dec xs) (.returned (.tuple #[msV ms0 sZ, .int .i64 4])) w7) := dec_post HDE.out (HB6.out.trans (hk7.out.below hbdw HB6.out.size))
          clear hk7 HM6 HQ6 HB6 HMO6
          go_wp2_with fail
          exact bodyPost_ret (dec_res hm7.out rfl rfl) rfl HQ.out
      · have he0b : (er != 0) = true := by simpa using he0
        have HDE : Hid (dec xs = (ms0, 4)) := by
          show _ = _
          rw [dec_some HFR.out HK6.out HX.out, if_neg (by rintro ⟨h1, -⟩; rw [HER.out] at h1; exact he0 h1)]
        go_wp2_with (refine list_mstore rfl _ _ rfl (b := bd) (m := ms0) (s := sZ) rfl rfl HM5.out ?_)
        intro w7 hm7 hk7
        have HQ : Hid (DecPost w (dec xs) (.returned (.tuple #[msV ms0 sZ, .int .i64 4])) w7) := dec_post HDE.out (HB5.out.trans (hk7.out.below hbdw HB5.out.size))
        clear hk7 HM5 HQ5 HB5 HMO5
        go_wp2_with fail
        exact bodyPost_ret (dec_res hm7.out rfl rfl) rfl HQ.out
theorem fcheck_short (va : Option Addr) (n cap : Nat) (h9 : n < 9) (w : World) :
    Calls Try.prog 71 #[.slice va n cap] w fun e w' => e = .returned (.int .i64 4) ∧ Below w.heap.size w w' := by
  have h9i : (n : Int) < 9 := by omega
  go_enter Try.func71, Try.ntmps71
  go_wp2_with fail
  go_ret
  exact ⟨rfl, Below.refl _ _⟩
/-- Decode of whatever bytes -/
theorem decode_any (va : Option Addr) (n cap : Nat) (xs : List Nat) (hn : xs.length = n) (hcap : n ≤ cap) (w : World) (hl : Lst E8 w va xs) (hu : ∀ d ∈ xs, d < 256) :
    Calls Try.prog 59 #[.slice va n cap] w (DecPost w (dec xs)) := by
  by_cases h9 : n < 9
  · have e1 : frE xs = 4 := by unfold frE; rw [if_pos (by omega)]
    refine decode_bad va n cap xs w 4 (by decide) ?_ (fun W _ => fcheck_short va n cap h9 W)
    unfold dec
    rw [e1, if_pos (by decide)]
  · obtain ⟨b, o, rfl, -, -⟩ := lst8 hl 0 (by omega)
    by_cases hf : frE xs = 0
    · obtain ⟨h1, kd, hk, hk1, hk4, -, -, -⟩ := frE_ok (by omega) hf
      exact decode_run b o cap xs n hn (by omega) (by omega) hcap w hl hu hf kd hk ⟨hk1, hk4⟩
    · refine decode_bad _ n cap xs w (frE xs) (by simpa using hf) ?_ (fun W hW => fcheck_any b o cap xs n hn (by omega) hcap W (hl.bel hW) hu _ rfl)
      unfold dec
      rw [if_pos hf]
end Go.Proofs.Ytanboekdfdafmaa.Pv
