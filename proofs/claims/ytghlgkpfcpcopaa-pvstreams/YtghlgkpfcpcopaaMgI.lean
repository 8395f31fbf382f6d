/- The document's PvDecode. -/
import Derived.Test.YtghlgkpfcpcopaaMgF
import Derived.Test.YtghlgkpfcpcopaaMgH
namespace Go.Proofs.Ytghlgkpfcpcopaa.Pv
open Go.ChangeShapes Go.WideShapes Go.ChangeAt Go.RowKit Go.Joins Go.Proofs.Ytghlgkpfcpcopaa.PM Go.Proofs.Ytghlgkpfcpcopaa.Ask Go.Proofs.Ytghlgkpfcpcopaa.Ge
set_option linter.unusedVariables false

theorem malloc_run {o : Oper} {ρ : Operand → Value} {W : World} (ho : o.op = .alloc 31) : (execOp ρ o).run Try.prog W = .ok (.value (.pointer (some ⟨W.heap.size, 0, none⟩))) (W.alloc (Obj.cells (msL ms0 sZ).toArray 31)) := by
  unfold execOp
  rw [ho]
  simp [go_sem, msL, ms0, rtZ, sZ]
theorem malloc_step {o : Oper} {a : Act} {W : World} {K : Act → World → Prop} {Q : Exit → Act → World → Prop} {c : Bool} {E : Prop} (ho : o.op = .alloc 31) (hc : c = true)
    (k : ∀ W' b, Hid (MB b ms0 sZ W') → Hid (Below W.heap.size W W') → Hid (b = W.heap.size) → Hid (W'.heap.size = b + 1) → K (a.put o.dst (.pointer (some ⟨b, 0, none⟩))) W') : if c = true then Oper.wp Try.prog o a W K Q else E :=
  step_run hc (malloc_run ho) (k _ _ (World.alloc_heap_new W _) ((Below.refl _ W).alloc (Nat.le_refl _) _) rfl (by show _ = _; simp))
theorem build8_run {o : Oper} {ρ : Operand → Value} {W : World} (x : Operand) (ho : o.op = .buildSlice 22 1 #[(0, x)]) {k : Int} (hx : ρ x = .int .u8 k) : (execOp ρ o).run Try.prog W = .ok (.value (.slice (some ⟨W.heap.size, 0, none⟩) 1 1)) (W.alloc (Obj.cells #[.int .u8 k] 5)) := by
  unfold execOp
  rw [ho]
  simp [go_sem, hx]
theorem build8_step {o : Oper} {a : Act} {W : World} {K : Act → World → Prop} {Q : Exit → Act → World → Prop} {c : Bool} {E : Prop} (x : Operand) (ho : o.op = .buildSlice 22 1 #[(0, x)]) {d : Nat} (hx : a.eval x = .int .u8 (d : Int)) (hc : c = true)
    (k : ∀ W' v, Hid (OwnL E8 W.heap.size W' v [d]) → Hid (Below W.heap.size W W') → K (a.put o.dst v) W') : if c = true then Oper.wp Try.prog o a W K Q else E := by
  obtain ⟨h1, h2⟩ := own_made E8 (W := W) [d] 1 rfl (by decide) rfl
  exact step_run hc (build8_run x ho hx) (k _ _ h1 h2)
/-- its boxes: what it answers, and a message that tells nothing -/
theorem dd_start {w W1 W2 : World}
    (h1 : w.alloc (Obj.cells #[.int .i64 0, .int .i64 0, .int .i64 0, .int .i64 0, .int .i64 0, .slice none 0 0, .slice none 0 0, .int .u32 0, .int .i64 0, .slice none 0 0, .int .i64 0, .int .i64 0, .int .i64 0, .int .u32 0, .slice none 0 0, .slice none 0 0, .int .i64 0] 31) = W1)
    (h2 : W1.alloc (Obj.cells #[.int .i64 0, .int .i64 0, .int .i64 0, .int .i64 0, .int .i64 0, .slice none 0 0, .slice none 0 0, .int .u32 0, .int .i64 0, .slice none 0 0, .int .i64 0, .int .i64 0, .int .i64 0, .int .u32 0, .slice none 0 0, .slice none 0 0, .int .i64 0] 31) = W2) : GuS w w.heap.size (w.heap.size + 1) W2 ms0 sZ := by
  obtain ⟨m4, b1⟩ := mb_zero rfl h1
  have z1 : W1.heap.size = w.heap.size + 1 := by rw [← h1]; simp
  obtain ⟨m7, b2⟩ := mb_zero z1 h2
  exact ⟨m4.blk (b2.block _ (by omega)), m7, b1.trans (b2.mono b1.size), Nat.le_refl _, by omega⟩
theorem dd_res {W : World} {bd : Nat} {m : Ms} {s : Sl} {er : Int} (h : MB bd m s W) {tm : Array Value} (t2 : (tm[2]?).getD undef = .pointer (some ⟨bd, 0, none⟩)) (t3 : (tm[3]?).getD undef = .int .i64 er) : (results Try.f8 tm).run Try.prog W = .ok (.tuple #[msV m s, .int .i64 er]) W := by
  obtain ⟨c0, c1, c2, c3, c4, c5, c6, c7, c8, c9, c10, c11, c12, c13, c14, c15, c16⟩ := h.box
  unfold msV
  simp [results, Try.results8, go_sem, t2, t3, c0, c1, c2, c3, c4, c5, c6, c7, c8, c9, c10, c11, c12, c13, c14, c15, c16]
theorem dd_post {w W W' : World} {b2 b4 : Nat} {xs : List Nat} {er : Int} (h : GuS w b2 b4 W ms0 sZ) (hk : Ko W b2 W') (he : ddec xs = (ms0, er)) : DecPost w (ddec xs) (.returned (.tuple #[msV ms0 sZ, .int .i64 er])) W' := by
  rw [he]
  exact ⟨sZ, rfl, mo_zero _ _ _ rfl rfl rfl, h.bel.trans (hk.below h.h4)⟩
theorem ddec_fr {xs : List Nat} {er : Int} (h : frE xs = er) (h0 : ¬ er = 0) : ddec xs = (ms0, er) := by
  unfold ddec
  rw [if_pos (by rw [h]; exact h0), h]
theorem fr_short {xs : List Nat} {n : Nat} (hn : xs.length = n) (h : n < 9) : frE xs = 4 := by unfold frE; rw [if_pos (by omega)]
theorem bg_mark {xs : List Nat} {i : Nat} (h : i < xs.length) (h4 : i < 4) (hx : ¬ xs[i] = 255) : bgE xs = 4 := by
  unfold bgE
  rw [if_pos]
  rw [List.any_eq_true]
  exact ⟨xs[i], by
    have : (xs.take 4)[i]'(by rw [List.length_take]; omega) = xs[i] := List.getElem_take
    rw [← this]
    exact List.getElem_mem _, by simpa using hx⟩
theorem fr_mark {xs : List Nat} {i : Nat} (h9 : ¬ xs.length < 9) (h : i < xs.length) (h4 : i < 4) (hx : ¬ xs[i] = 255) : frE xs = 4 := by
  unfold frE
  rw [if_neg h9, bg_mark h h4 hx, if_pos (by decide)]
theorem bg_long {xs : List Nat} {N : Nat} (h9 : ¬ xs.length < 9) (hm : ∀ i (h : i < xs.length), i < 4 → xs[i] = 255) (hN : num ((xs.drop 4).take 2) = N) : bgE xs = if 9 ≤ N ∧ N ≤ 1024 then 0 else 6 := by
  unfold bgE
  rw [if_neg]
  · rw [hN]
    by_cases h : 9 ≤ N ∧ N ≤ 1024
    · rw [if_neg (fun c => c.2 h), if_pos h]
    · rw [if_pos ⟨by omega, h⟩, if_neg h]
  · intro hc
    rw [List.any_eq_true] at hc
    obtain ⟨d, hd, hd2⟩ := hc
    obtain ⟨i, hi, rfl⟩ := List.getElem_of_mem hd
    rw [List.length_take] at hi
    rw [List.getElem_take, hm i (by omega) (by omega)] at hd2
    simp at hd2
theorem fr_rest {xs : List Nat} {N S2 S kd : Nat} (h9 : ¬ xs.length < 9) (hm : ∀ i (h : i < xs.length), i < 4 → xs[i] = 255) (hN : num ((xs.drop 4).take 2) = N) (hS2 : num ((xs.drop 7).take 2) = S2) (hk : xs[6]? = some kd) (hS : ssum 65535 (kd :: xs.drop 9) = S) :
    frE xs = if 9 ≤ N ∧ N ≤ 1024 then (if N ≠ xs.length then 4 else if S2 ≠ S then 5 else if 1 ≤ kd ∧ kd ≤ 4 then 0 else 13) else 6 := by
  unfold frE
  rw [if_neg h9, bg_long h9 hm hN, hN, hS2, hk, Option.getD_some, hS]
  by_cases h : 9 ≤ N ∧ N ≤ 1024
  · rw [if_pos h, if_pos h, if_neg (by decide)]
    by_cases h1 : N ≠ xs.length
    · rw [if_pos h1, if_pos h1]
    · rw [if_neg h1, if_neg h1]
      by_cases h2 : S2 ≠ S
      · rw [if_pos h2, if_pos h2]
      · rw [if_neg h2, if_neg h2]
        by_cases h3 : 1 ≤ kd ∧ kd ≤ 4
        · rw [if_pos h3, if_neg (by rw [isK_iff.2 ⟨by omega, by omega⟩]; decide)]
        · rw [if_neg h3, if_pos (by unfold isK; exact wi_not.2 (by omega))]
  · rw [if_neg h, if_neg h, if_pos (by decide)]
theorem ddec_none {xs : List Nat} {kd : Nat} (h : frE xs = 0) (hk : xs[6]? = some kd) (hr : guess kd (xs.drop 9) = none) : ddec xs = (ms0, 4) := by
  unfold ddec
  rw [h, if_neg (by simp), hk]
  simp only [Option.getD_some]
  rw [hr]
theorem ddec_some {xs body : List Nat} {kd : Nat} {m : Ms} (h : frE xs = 0) (hk : xs[6]? = some kd) (hr : guess kd (xs.drop 9) = some (m, body)) : ddec xs = if encE m = 0 ∧ (encB m).drop 9 = body then (m, 0) else (ms0, 4) := by
  unfold ddec
  rw [h, if_neg (by simp), hk]
  simp only [Option.getD_some]
  rw [hr]
theorem dguess_any (kd : Nat) (hk : 1 ≤ kd ∧ kd ≤ 4) (a : Option Addr) (n c : Nat) (xs : List Nat) (w : World) (hl : Lst E8 w a xs) (hn : xs.length = n) (hc : n ≤ c) (hu : ∀ d ∈ xs, d < 256) (hbig : n ≤ 20000) :
    Calls Try.prog 27 #[.int .i64 (kd : Int), .slice a n c] w (GuPost w a (guess kd xs)) := by
  have : kd = 1 ∨ kd = 2 ∨ kd = 3 ∨ kd = 4 := by omega
  rcases this with rfl | rfl | rfl | rfl
  · exact dguess1 a n c xs w hl hn hc hu
  · exact dguess2 a n c xs w hl hn hc hu hbig
  · exact dguess3 a n c xs w hl hn hc hu
  · exact dguess4 a n c xs w hl hn hc hu
theorem guess_u8 {kd : Nat} {xs kp : List Nat} {m : Ms} (hu : ∀ d ∈ xs, d < 256) (h : guess kd xs = some (m, kp)) : (∀ d ∈ kp, d < 256) ∧ m.lost.length ≤ xs.length ∧ m.hv.length ≤ xs.length := by
  obtain ⟨h1, h2, -, h3⟩ := readB_len (guess_read h)
  exact ⟨h3 hu, h1, h2⟩
theorem conv_run {o : Oper} {ρ : Operand → Value} {W : World} (x : Operand) (ho : o.op = .convert 22 9 x) {v r : Value} (hx : ρ x = v) (h : (convert 22 9 v).run Try.prog W = .ok r W) : (execOp ρ o).run Try.prog W = .ok (.value r) W := by
  unfold execOp
  rw [ho]
  simp only [hx, Sem.run_bind, Sem.run_pure, h, Result.andThen_ok]
theorem dd_done {w w6 W W' : World} {b2 : Nat} {xs : List Nat} {m : Ms} {s : Sl} (hmo : MO w6.heap.size W m s) (hb : Below w.heap.size w W) (h6 : w.heap.size ≤ w6.heap.size) (hk : Ko W b2 W') (h2 : w.heap.size ≤ b2) (h26 : b2 < w6.heap.size) (he : ddec xs = (m, 0)) : DecPost w (ddec xs) (.returned (.tuple #[msV m s, .int .i64 0])) W' := by
  rw [he]
  exact ⟨s, rfl, (hmo.blk (fun g _ hg _ => hk.block g (by omega))).mono h6, hb.trans (hk.below h2)⟩
/-! the walk -/
set_option maxRecDepth 100000 in
set_option maxHeartbeats 32000000 in
theorem ddecode_any (a : Option Addr) (n c : Nat) (xs : List Nat) (w : World) (hl : Lst E8 w a xs) (hn : xs.length = n) (hc : n ≤ c) (hu : ∀ d ∈ xs, d < 256) :
    Calls Try.prog 8 #[.slice a n c] w (DecPost w (ddec xs)) := by
  have HL : Hid (Lst E8 w a xs) := hl
  have HLN : Hid (xs.length = n) := hn
  have HU : Hid (∀ d ∈ xs, d < 256) := hu
  clear hl hn hu
  obtain ⟨W1, hW1⟩ : ∃ W, w.alloc (Obj.cells #[.int .i64 0, .int .i64 0, .int .i64 0, .int .i64 0, .int .i64 0, .slice none 0 0, .slice none 0 0, .int .u32 0, .int .i64 0, .slice none 0 0, .int .i64 0, .int .i64 0, .int .i64 0, .int .u32 0, .slice none 0 0, .slice none 0 0, .int .i64 0] 31) = W := ⟨_, rfl⟩
  have hz1 : W1.heap.size = w.heap.size + 1 := by rw [← hW1]; simp
  obtain ⟨W2, hW2⟩ : ∃ W, W1.alloc (Obj.cells #[.int .i64 0, .int .i64 0, .int .i64 0, .int .i64 0, .int .i64 0, .slice none 0 0, .slice none 0 0, .int .u32 0, .int .i64 0, .slice none 0 0, .int .i64 0, .int .i64 0, .int .i64 0, .int .u32 0, .slice none 0 0, .slice none 0 0, .int .i64 0] 31) = W := ⟨_, rfl⟩
  have HS : Hid (GuS w w.heap.size (w.heap.size + 1) W2 ms0 sZ) := dd_start hW1 hW2
  go_enter Try.func8, Try.ntmps8
  go_upto_region 2 with fail
  clear hW1 hW2 hz1
  obtain ⟨b4, hb4⟩ : ∃ k, w.heap.size + 1 = k := ⟨_, rfl⟩
  rw [hb4] at HS ⊢
  obtain ⟨b2, hb2⟩ : ∃ k, w.heap.size = k := ⟨_, rfl⟩
  have HS0 : Hid (GuS w b2 b4 W2 ms0 sZ) := by rw [← hb2]; exact HS.out
  rw [hb2]
  clear hb4 hb2 HS
  by_cases h9 : n < 9
  · have h9i : (n : Int) < 9 := by omega
    go_wp2_with (first | (refine list_sload MsK rfl _ rfl (b := b4) (cs := msL ms0 sZ) rfl HS0.out.m7 rfl ?_) | (refine list_sstore MsK rfl _ _ rfl (b := b2) (cs := msL ms0 sZ) (cs' := msL ms0 sZ) rfl rfl HS0.out.m4 rfl rfl rfl ?_))
    intro W5 hm5 hk5
    have HQ5 := dd_post HS0.out hk5.out (ddec_fr (fr_short HLN.out h9) (by decide))
    clear hk5 HS0
    go_wp2_with fail
    exact bodyPost_ret (dd_res hm5.out rfl rfl) rfl HQ5
  · have h9i : ¬ (n : Int) < 9 := by omega
    have HN9 : Hid (¬ xs.length < 9) := by show ¬ _; rw [HLN.out]; exact h9
    obtain ⟨b, o, rfl, hbl, -⟩ := lst8 HL.out 0 (by rw [HLN.out]; omega)
    have HL2 : Hid (Lst E8 W2 (some ⟨b, o, none⟩) xs) := HL.out.bel HS0.out.bel
    go_wp2_with fail
    go_loopw [5] (fun iv wr => ∃ i : Nat, i ≤ 4 ∧ iv = .int .i64 (i : Int) ∧ (∀ j (h : j < xs.length), j < i → xs[j] = 255) ∧ wr = W2) (fun i _ => 4 - (intOf i).toNat)
    case atStart => exact ⟨0, by omega, rfl, (fun j _ h => absurd h (by omega)), rfl⟩
    case round =>
      obtain ⟨i, hi, rfl, hm, hwr⟩ := hrel
      rw [hwr]
      clear hwr
      have HM : Hid (∀ j (h : j < xs.length), j < i → xs[j] = 255) := hm
      clear hm
      by_cases hlt : i < 4
      · have hlti : (i : Int) < 4 := by omega
        have hini : (i : Int) < (n : Int) := by omega
        have hin : i < xs.length := by rw [HLN.out]; omega
        obtain ⟨b', o', e', -, c0⟩ := lst8 HL2.out i hin
        cases e'
        obtain ⟨d, hd⟩ : ∃ d, xs[i] = d := ⟨_, rfl⟩
        have HD : Hid (xs[i] = d) := hd
        rw [hd] at c0
        clear hd
        by_cases h255 : d = 255
        · subst h255
          go_wp2_with fail
          refine ⟨⟨i + 1, by omega, by simp, (fun j hj hji => ?_), trivial⟩, by simp [intOf]; omega⟩
          by_cases e : j = i
          · subst e; exact HD.out
          · exact HM.out j hj (by omega)
        · have h255b : ((d : Int) != 255) = true := by simp; omega
          have h255i : ¬ (d : Int) = 255 := by omega
          go_wp2_with (first | (refine list_sload MsK rfl _ rfl (b := b4) (cs := msL ms0 sZ) rfl HS0.out.m7 rfl ?_) | (refine list_sstore MsK rfl _ _ rfl (b := b2) (cs := msL ms0 sZ) (cs' := msL ms0 sZ) rfl rfl HS0.out.m4 rfl rfl rfl ?_))
          intro W5 hm5 hk5
          have HQ5 := dd_post HS0.out hk5.out (ddec_fr (fr_mark HN9.out hin (by omega) (by rw [HD.out]; exact h255)) (by decide))
          clear hk5 HS0
          go_wp2_with fail
          exact bodyPost_ret (dd_res hm5.out rfl rfl) rfl HQ5
      · obtain rfl : i = 4 := by omega
        have hc4 : ¬ c = 4 := by omega
        have hc6 : (6 : Int) ≤ (c : Int) := by omega
        obtain ⟨N, hN⟩ : ∃ y, num ((xs.drop 4).take 2) = y := ⟨_, rfl⟩
        have HNN : Hid (num ((xs.drop 4).take 2) = N) := hN
        have hN16 : N < 65536 := by rw [← hN]; exact num_lt (drop_u8 HU.out 4) 2 (by rw [List.length_drop, HLN.out]; omega)
        have HD4 : Hid (Calls Try.prog 25 #[.slice (some ⟨b, o + 4, none⟩) 2 (c - 4)] W2 fun e w' => e = .returned (.int .i64 (N : Int)) ∧ w' = W2) := by
          rw [← hN]
          exact dnum_any _ 2 _ _ _ ((HL2.out.drop 4).take 2) (by rw [List.length_take, List.length_drop, HLN.out]; omega) (fun d hd => HU.out d (List.mem_of_mem_drop (List.mem_of_mem_take hd))) (by omega)
        obtain ⟨kd, hkd⟩ : ∃ y, xs[6]'(by rw [HLN.out]; omega) = y := ⟨_, rfl⟩
        have HK6 : Hid (xs[6]? = some kd) := by show _ = _; rw [List.getElem?_eq_getElem (by rw [HLN.out]; omega), hkd]
        have hkd8 : kd < 256 := by rw [← hkd]; exact HU.out _ (List.getElem_mem _)
        obtain ⟨S2, hS2⟩ : ∃ y, num ((xs.drop 7).take 2) = y := ⟨_, rfl⟩
        have HS2 : Hid (num ((xs.drop 7).take 2) = S2) := hS2
        obtain ⟨SS, hSS⟩ : ∃ y, ssum 65535 (kd :: xs.drop 9) = y := ⟨_, rfl⟩
        have HSS : Hid (ssum 65535 (kd :: xs.drop 9) = SS) := hSS
        have HFR := fr_rest HN9.out HM.out hN hS2 HK6.out hSS
        rw [HLN.out] at HFR
        have HFH : Hid (frE xs = _) := HFR
        have HC6 : Hid (∀ W, Lst E8 W (some ⟨b, o, none⟩) xs → W.cell? ⟨b, o + 6, none⟩ = some (.int .u8 (kd : Int))) := by
          intro W hW
          obtain ⟨b', o', e', -, c0⟩ := lst8 hW 6 (by rw [HLN.out]; omega)
          cases e'
          rw [hkd] at c0
          exact c0
        clear hN hkd hS2 hSS HFR HM
        by_cases hN1 : N < 9
        · have hN1i : (N : Int) < 9 := by omega
          go_wp2_with (first | (go_at_call 25; refine HD4.out.mono ?_; rintro e w' ⟨rfl, hw'⟩; rw [hw']; clear hw' w') | (refine list_sload MsK rfl _ rfl (b := b4) (cs := msL ms0 sZ) rfl HS0.out.m7 rfl ?_) | (refine list_sstore MsK rfl _ _ rfl (b := b2) (cs := msL ms0 sZ) (cs' := msL ms0 sZ) rfl rfl HS0.out.m4 rfl rfl rfl ?_))
          intro W5 hm5 hk5
          have HQ5 := dd_post HS0.out hk5.out (ddec_fr (by rw [HFH.out, if_neg (by omega)]) (by decide))
          clear hk5 HS0
          go_wp2_with fail
          exact bodyPost_ret (dd_res hm5.out rfl rfl) rfl HQ5
        · have hN1i : ¬ (N : Int) < 9 := by omega
          by_cases hN2 : 1024 < N
          · have hN2i : (1024 : Int) < (N : Int) := by omega
            go_wp2_with (first | (go_at_call 25; refine HD4.out.mono ?_; rintro e w' ⟨rfl, hw'⟩; rw [hw']; clear hw' w') | (refine list_sload MsK rfl _ rfl (b := b4) (cs := msL ms0 sZ) rfl HS0.out.m7 rfl ?_) | (refine list_sstore MsK rfl _ _ rfl (b := b2) (cs := msL ms0 sZ) (cs' := msL ms0 sZ) rfl rfl HS0.out.m4 rfl rfl rfl ?_))
            intro W5 hm5 hk5
            have HQ5 := dd_post HS0.out hk5.out (ddec_fr (by rw [HFH.out, if_neg (by omega)]) (by decide))
            clear hk5 HS0
            go_wp2_with fail
            exact bodyPost_ret (dd_res hm5.out rfl rfl) rfl HQ5
          · have hN2i : ¬ (1024 : Int) < (N : Int) := by omega
            by_cases hNn : N = n
            · have HNE : Hid (N = n) := hNn
              have hn1024 : n ≤ 1024 := by omega
              have HF2 : Hid (frE xs = if S2 ≠ SS then 5 else if 1 ≤ kd ∧ kd ≤ 4 then 0 else 13) := by show _ = _; rw [HFH.out, if_pos (by omega), if_neg (by simp [HNE.out])]
              obtain rfl : n = N := hNn.symm
              clear hN1i hN2i hN1 hN2 HFH HNE
              go_wp2_with (first | (go_at_call 25; refine HD4.out.mono ?_; rintro e w' ⟨rfl, hw'⟩; rw [hw']; clear hw' w'))
              have hc9 : 9 ≤ c := by omega
              have hc9i : (9 : Int) ≤ (c : Int) := by omega
              have hc7 : ¬ c = 7 := by omega
              have hn9 : 9 ≤ n := by omega
              have h6ni : (6 : Int) < (n : Int) := by omega
              have HXD : Hid (Below W2.heap.size W2 W2.drew) := drew_bel W2
              obtain ⟨va9, hva9⟩ : ∃ y : Option Addr, (if c = 9 then some (⟨b, o, none⟩ : Addr) else some ⟨b, o + 9, none⟩) = y := ⟨_, rfl⟩
              have HVA9 : Hid ((if c = 9 then some (⟨b, o, none⟩ : Addr) else some ⟨b, o + 9, none⟩) = va9) := hva9
              clear hva9
              have HT9 : Hid (∀ W, Lst E8 W (some ⟨b, o, none⟩) xs → Lst E8 W va9 (xs.drop 9)) := by
                intro W hW
                rw [← HVA9.out]
                by_cases hck : c = 9
                · have : xs.drop 9 = [] := List.length_eq_zero_iff.1 (by rw [List.length_drop, HLN.out]; omega)
                  rw [this]
                  exact ⟨by simp, fun i hi => absurd hi (by simp)⟩
                · rw [if_neg hck]
                  exact hW.drop 9
              have HVB : Hid (∀ ad0, va9 = some ad0 → ad0.block = b) := fun ad0 e => by
                rw [← HVA9.out] at e
                split at e <;> (cases e; rfl)
              have HNI9 : Hid (va9 = none → n - 9 = 0 ∧ c - 9 = 0) := fun e => by
                rw [← HVA9.out] at e
                split at e <;> cases e
              have HLD9 : Hid ((xs.drop 9).length = n - 9) := by show _ = _; rw [List.length_drop, HLN.out]
              have HD7 : Hid (∀ W, Below W2.heap.size W2 W → Calls Try.prog 25 #[.slice (some ⟨b, o + 7, none⟩) 2 (c - 7)] W fun e w' => e = .returned (.int .i64 (S2 : Int)) ∧ w' = W) := by
                intro W hW
                rw [← HS2.out]
                exact dnum_any _ 2 _ _ _ (((HL2.out.bel hW).drop 7).take 2) (by rw [List.length_take, List.length_drop, HLN.out]; omega) (fun d hd => HU.out d (List.mem_of_mem_drop (List.mem_of_mem_take hd))) (by omega)
              have HUK : Hid (∀ d ∈ kd :: xs.drop 9, d < 256) := fun d hd => by
                rcases List.mem_cons.1 hd with e | e
                · omega
                · exact HU.out d (List.mem_of_mem_drop e)
              refine wp_region_held_drew (S := fun W => W.cell? ⟨b, o + 6, none⟩ = some (.int .u8 (kd : Int))) (by kernel_rfl) (HC6.out _ (HL2.out.bel HXD.out)) (fun hHeld => ?_)
              refine wpAnyH_take (i := 0) (v := ?_) rfl (by kernel_rfl) (by kernel_rfl) (by kernel_rfl) (fun _ _ _ h => h) (Or.inl ⟨by rfl, ?_⟩) (by assumption) ?_
              case refine_2 => intro W hSw; go_simp; try rfl
              try simp only [Act.put, List.getElem_toArray, List.getElem_cons_zero, List.setIfInBounds_toArray, List.set_cons_zero, List.set_cons_succ]
              refine wpAnyH_take (i := 1) (v := .slice (some ⟨b, o + 7, none⟩) 2 (c - 7)) rfl (by kernel_rfl) (by kernel_rfl) (by kernel_rfl) (fun _ _ _ h => h) (Or.inl ⟨by rfl, fun W hSw => by go_simp; try (rw [if_pos (by omega)]); try rfl⟩) (by assumption) ?_
              try simp only [Act.put, List.getElem_toArray, List.getElem_cons_zero, List.getElem_cons_succ, List.setIfInBounds_toArray, List.set_cons_zero, List.set_cons_succ]
              refine wpAnyH_take (i := 3) (v := ?_) rfl (by kernel_rfl) (by kernel_rfl) (by kernel_rfl) (fun _ _ _ h => h) (Or.inl ⟨by rfl, ?_⟩) (by assumption) ?_
              case refine_2 => intro W hSw; go_simp; try rfl
              try simp only [Act.put, List.getElem_toArray, List.getElem_cons_zero, List.getElem_cons_succ, List.setIfInBounds_toArray, List.set_cons_zero, List.set_cons_succ]
              refine wpAnyH_take (i := 4) (v := .pointer (some ⟨b, o + 6, none⟩)) rfl (by kernel_rfl) (by kernel_rfl) (by kernel_rfl) (fun _ _ _ h => h) (Or.inl ⟨by rfl, fun W hSw => by go_simp; try rfl⟩) (by assumption) ?_
              try simp only [Act.put, List.getElem_toArray, List.getElem_cons_zero, List.getElem_cons_succ, List.setIfInBounds_toArray, List.set_cons_zero, List.set_cons_succ]
              refine wpAnyH_take (i := 5) (v := .int .u8 (kd : Int)) rfl (by kernel_rfl) (by kernel_rfl) (by kernel_rfl) (fun _ _ _ h => h) (Or.inl ⟨by rfl, fun W hSw => by go_simp; try rfl⟩) (by assumption) ?_
              try simp only [Act.put, List.getElem_toArray, List.getElem_cons_zero, List.getElem_cons_succ, List.setIfInBounds_toArray, List.set_cons_zero, List.set_cons_succ]
              refine wpAnyH_take (i := 7) (v := ?_) rfl (by kernel_rfl) (by kernel_rfl) (by kernel_rfl) (fun _ _ _ h => h) (Or.inl ⟨by rfl, ?_⟩) (by assumption) ?_
              case refine_2 => intro W hSw; go_simp; try rfl
              try simp only [Act.put, List.getElem_toArray, List.getElem_cons_zero, List.getElem_cons_succ, List.setIfInBounds_toArray, List.set_cons_zero, List.set_cons_succ]
              refine wpAnyH_take (i := 8) (v := .slice va9 (n - 9) (c - 9)) rfl (by kernel_rfl) (by kernel_rfl) (by kernel_rfl) (fun _ _ _ h => h) (Or.inl ⟨by rfl, fun W hSw => by rw [← HVA9.out]; exact slice8n_run (.tmp 48) (.const (.int .i64 9)) rfl (l := 9) rfl rfl hn9 hc⟩) (by assumption) ?_
              try simp only [Act.put, List.getElem_toArray, List.getElem_cons_zero, List.getElem_cons_succ, List.setIfInBounds_toArray, List.set_cons_zero, List.set_cons_succ]
              refine wpAnyH_ready (rs := [2, 6]) (by kernel_rfl) (by simp) ?_
              refine AllReadyH.cons rfl (fun K hK => ?_) (AllReadyH.cons rfl (fun K hK => ?_) AllReadyH.nil)
              case' refine_1 =>
                go_simp
                refine (HD7.out _ HXD.out).mono ?_
                rintro e w' ⟨rfl, hw'⟩
                rw [hw']
                clear hw' w'
                refine hK.out _ _ hHeld (fun hHeld => ?_)
                clear hK K
                try simp only [Act.put, List.getElem_toArray, List.getElem_cons_zero, List.getElem_cons_succ, List.setIfInBounds_toArray, List.set_cons_zero, List.set_cons_succ]
                refine wpAnyH_ready (rs := [6]) (by kernel_rfl) (by simp) ?_
                refine AllReadyH.cons rfl (fun K hK => ?_) AllReadyH.nil
                refine build8_step (.tmp 46) rfl (d := kd) rfl rfl (fun W5 v5 ho5 hb5 => ?_)
                have HB5 : Hid (Below W2.heap.size W2 W5) := HXD.out.trans hb5.out
                have HO5 : Hid (OwnL E8 W2.heap.size W5 v5 [kd]) := ho5.out
                refine hK.out _ _ (HC6.out _ (HL2.out.bel HB5.out)) (fun hHeld => ?_)
                clear hK K ho5 hb5
                try simp only [Act.put, List.getElem_toArray, List.getElem_cons_zero, List.getElem_cons_succ, List.setIfInBounds_toArray, List.set_cons_zero, List.set_cons_succ]
              case' refine_2 =>
                refine build8_step (.tmp 46) rfl (d := kd) rfl rfl (fun W5 v5 ho5 hb5 => ?_)
                have HB5 : Hid (Below W2.heap.size W2 W5) := HXD.out.trans hb5.out
                have HO5 : Hid (OwnL E8 W2.heap.size W5 v5 [kd]) := ho5.out
                refine hK.out _ _ (HC6.out _ (HL2.out.bel HB5.out)) (fun hHeld => ?_)
                clear hK K ho5 hb5
                try simp only [Act.put, List.getElem_toArray, List.getElem_cons_zero, List.getElem_cons_succ, List.setIfInBounds_toArray, List.set_cons_zero, List.set_cons_succ]
                refine wpAnyH_ready (rs := [2]) (by kernel_rfl) (by simp) ?_
                refine AllReadyH.cons rfl (fun K hK => ?_) AllReadyH.nil
                go_simp
                refine (HD7.out _ HB5.out).mono ?_
                rintro e w' ⟨rfl, hw'⟩
                rw [hw']
                clear hw' w'
                refine hK.out _ _ hHeld (fun hHeld => ?_)
                clear hK K
                try simp only [Act.put, List.getElem_toArray, List.getElem_cons_zero, List.getElem_cons_succ, List.setIfInBounds_toArray, List.set_cons_zero, List.set_cons_succ]
              all_goals
                have HN5 : Hid (W2.heap.size ≤ W5.heap.size) := HB5.out.size
                have HBY5 : Hid (([kd] : List Nat).length + (n - 9) ≤ 1099511627775) := by show _ ≤ _; simp; omega
                refine wpAnyH_ready (rs := [9]) (by kernel_rfl) (by simp) ?_
                refine AllReadyH.cons rfl (fun K hK => ?_) AllReadyH.nil
                refine step_appL E8 (.tmp 47) (.tmp 49) 22 rfl rfl W2.heap.size v5 [kd] (xs.drop 9) va9 (n - 9) (c - 9) W5 HBY5.out rfl HO5.out rfl (HT9.out _ (HL2.out.bel HB5.out)) HNI9.out HLD9.out HN5.out rfl (fun v6 w6 ho6 hg6 ha6 => ?_)
                have HB6 : Hid (Below W2.heap.size W2 w6) := HB5.out.grown hg6.out HN5.out (fun g e => (HO5.out.row.lt g e).1)
                have HO6 : Hid (OwnL E8 W2.heap.size w6 v6 (kd :: xs.drop 9)) := ho6.out
                obtain ⟨sa, sc, hv6, -⟩ := HO6.out.form
                obtain ⟨sl, hsl⟩ : ∃ y, (kd :: xs.drop 9).length = y := ⟨_, rfl⟩
                have HSL : Hid ((kd :: xs.drop 9).length = sl) := hsl
                rw [hsl] at hv6
                subst hv6
                refine hK.out _ _ (HC6.out _ (HL2.out.bel HB6.out)) (fun hHeld => ?_)
                clear hK K ho6 hg6 ha6 hsl HO5 HB5 HN5
                try simp only [Act.put, List.getElem_toArray, List.getElem_cons_zero, List.getElem_cons_succ, List.setIfInBounds_toArray, List.set_cons_zero, List.set_cons_succ]
                refine wpAnyH_ready (rs := [10]) (by kernel_rfl) (by simp) ?_
                refine AllReadyH.cons rfl (fun K hK => ?_) AllReadyH.nil
                go_simp
                refine (rsum_any sa sc (kd :: xs.drop 9) sl HSL.out w6 HO6.out.lst.1 HUK.out SS HSS.out).mono ?_
                rintro e w' ⟨rfl, hw'⟩
                rw [hw']
                clear hw' w'
                refine hK.out _ _ hHeld (fun hHeld => ?_)
                clear hK K
                try simp only [Act.put, List.getElem_toArray, List.getElem_cons_zero, List.getElem_cons_succ, List.setIfInBounds_toArray, List.set_cons_zero, List.set_cons_succ]
                have HS6 : Hid (GuS w b2 b4 w6 ms0 sZ) := HS0.out.bel2 HB6.out
                have HL6 : Hid (Lst E8 w6 (some ⟨b, o, none⟩) xs) := HL2.out.bel HB6.out
                have c6 : w6.cell? ⟨b, o + 6, none⟩ = some (.int .u8 (kd : Int)) := HC6.out _ HL6.out
                by_cases hsum : S2 = SS
                case' neg =>
                  have hsumi : ¬ (S2 : Int) = (SS : Int) := by omega
                  have hsumb : ((S2 : Int) != (SS : Int)) = true := by simpa using hsumi
                  refine wpAnyH_take (i := 11) (v := ?_) rfl (by kernel_rfl) (by kernel_rfl) (by kernel_rfl) (fun _ _ _ h => h) (Or.inl ⟨by rfl, ?_⟩) (by assumption) ?_
                  case refine_2 => intro W hSw; go_simp; try rfl
                  try simp only [Act.put, List.getElem_toArray, List.getElem_cons_zero, List.getElem_cons_succ, List.setIfInBounds_toArray, List.set_cons_zero, List.set_cons_succ]
                  refine wpAnyH_done (by kernel_rfl) ?_ _
                  clear hHeld
                  go_wp2_with (first | (refine list_sload MsK rfl _ rfl (b := b4) (cs := msL ms0 sZ) rfl HS6.out.m7 rfl ?_) | (refine list_sstore MsK rfl _ _ rfl (b := b2) (cs := msL ms0 sZ) (cs' := msL ms0 sZ) rfl rfl HS6.out.m4 rfl rfl rfl ?_))
                  intro W5 hm5 hk5
                  have HQ5 := dd_post HS6.out hk5.out (ddec_fr (by rw [HF2.out, if_pos hsum]) (by decide))
                  clear hk5 HS6
                  go_wp2_with fail
                  exact bodyPost_ret (dd_res hm5.out rfl rfl) rfl HQ5
                case' pos =>
                  have HSE : Hid (S2 = SS) := hsum
                  obtain rfl : S2 = SS := hsum
                  refine wpAnyH_take (i := 11) (v := ?_) rfl (by kernel_rfl) (by kernel_rfl) (by kernel_rfl) (fun _ _ _ h => h) (Or.inl ⟨by rfl, ?_⟩) (by assumption) ?_
                  case refine_2 => intro W hSw; go_simp; try rfl
                  try simp only [Act.put, List.getElem_toArray, List.getElem_cons_zero, List.getElem_cons_succ, List.setIfInBounds_toArray, List.set_cons_zero, List.set_cons_succ]
                  refine wpAnyH_done (by kernel_rfl) ?_ _
                  clear hHeld HSE
                  have HF3 : Hid (frE xs = if 1 ≤ kd ∧ kd ≤ 4 then 0 else 13) := by show _ = _; rw [HF2.out, if_neg (by simp)]
                  by_cases hk1 : kd < 1
                  · have hk1i : (kd : Int) < 1 := by omega
                    go_wp2_with (first | (refine list_sload MsK rfl _ rfl (b := b4) (cs := msL ms0 sZ) rfl HS6.out.m7 rfl ?_) | (refine list_sstore MsK rfl _ _ rfl (b := b2) (cs := msL ms0 sZ) (cs' := msL ms0 sZ) rfl rfl HS6.out.m4 rfl rfl rfl ?_))
                    intro W5 hm5 hk5
                    have HQ5 := dd_post HS6.out hk5.out (ddec_fr (by rw [HF3.out, if_neg (by omega)]) (by decide))
                    clear hk5 HS6
                    go_wp2_with fail
                    exact bodyPost_ret (dd_res hm5.out rfl rfl) rfl HQ5
                  · have hk1i : ¬ (kd : Int) < 1 := by omega
                    by_cases hk4 : 4 < kd
                    · have hk4i : (4 : Int) < (kd : Int) := by omega
                      go_wp2_with (first | (refine list_sload MsK rfl _ rfl (b := b4) (cs := msL ms0 sZ) rfl HS6.out.m7 rfl ?_) | (refine list_sstore MsK rfl _ _ rfl (b := b2) (cs := msL ms0 sZ) (cs' := msL ms0 sZ) rfl rfl HS6.out.m4 rfl rfl rfl ?_))
                      intro W5 hm5 hk5
                      have HQ5 := dd_post HS6.out hk5.out (ddec_fr (by rw [HF3.out, if_neg (by omega)]) (by decide))
                      clear hk5 HS6
                      go_wp2_with fail
                      exact bodyPost_ret (dd_res hm5.out rfl rfl) rfl HQ5
                    · have hk4i : ¬ (4 : Int) < (kd : Int) := by omega
                      have HF4 : Hid (frE xs = 0) := by show _ = _; rw [HF3.out, if_pos (by omega)]
                      go_wp2_with fail
                      have hwk : IntKind.i64.wrap (kd : Int) = (kd : Int) := by rw [IntWalk.i64_in _ (by omega)]
                      have H6D : Hid (Below w6.heap.size w6 w6.drew) := drew_bel w6
                      have HGU : Hid (∀ W, Below w6.heap.size w6 W → Calls Try.prog 27 #[.int .i64 (kd : Int), .slice va9 (n - 9) (c - 9)] W (GuPost W va9 (guess kd (xs.drop 9)))) := fun W hW => dguess_any kd (by omega) va9 (n - 9) (c - 9) (xs.drop 9) W (HT9.out _ (HL6.out.bel hW)) HLD9.out (by omega) (drop_u8 HU.out 9) (by omega)
                      obtain ⟨og, hog⟩ : ∃ y, guess kd (xs.drop 9) = y := ⟨_, rfl⟩
                      have HOG : Hid (guess kd (xs.drop 9) = og) := hog
                      rw [hog] at HGU
                      have H26 : Hid (b4 < w6.heap.size ∧ b2 < b4) := ⟨HS6.out.m7.lt, HS6.out.h47⟩
                      clear hog c6
                      cases og with
                      | none =>
                        refine wp_region_held_drew (S := fun W => W.cell? ⟨b, o + 6, none⟩ = some (.int .u8 (kd : Int))) (by kernel_rfl) (HC6.out _ (HL6.out.bel H6D.out)) (fun hHeld => ?_)
                        refine wpAnyH_take (i := 0) (v := ?_) rfl (by kernel_rfl) (by kernel_rfl) (by kernel_rfl) (fun _ _ _ h => h) (Or.inl ⟨by rfl, ?_⟩) (by assumption) ?_
                        case refine_2 => intro W hSw; go_simp; try rfl
                        try simp only [Act.put, List.getElem_toArray, List.getElem_cons_zero, List.setIfInBounds_toArray, List.set_cons_zero, List.set_cons_succ]
                        refine wpAnyH_take (i := 1) (v := .pointer (some ⟨b, o + 6, none⟩)) rfl (by kernel_rfl) (by kernel_rfl) (by kernel_rfl) (fun _ _ _ h => h) (Or.inl ⟨by rfl, fun W hSw => by go_simp; try rfl⟩) (by assumption) ?_
                        try simp only [Act.put, List.getElem_toArray, List.getElem_cons_zero, List.getElem_cons_succ, List.setIfInBounds_toArray, List.set_cons_zero, List.set_cons_succ]
                        refine wpAnyH_take (i := 2) (v := .int .u8 (kd : Int)) rfl (by kernel_rfl) (by kernel_rfl) (by kernel_rfl) (fun _ _ _ h => h) (Or.inl ⟨by rfl, fun W hSw => by go_simp; try rfl⟩) (by assumption) ?_
                        try simp only [Act.put, List.getElem_toArray, List.getElem_cons_zero, List.getElem_cons_succ, List.setIfInBounds_toArray, List.set_cons_zero, List.set_cons_succ]
                        refine wpAnyH_take (i := 3) (v := .int .i64 (kd : Int)) rfl (by kernel_rfl) (by kernel_rfl) (by kernel_rfl) (fun _ _ _ h => h) (Or.inl ⟨by rfl, fun W hSw => by go_simp; try rfl⟩) (by assumption) ?_
                        try simp only [Act.put, List.getElem_toArray, List.getElem_cons_zero, List.getElem_cons_succ, List.setIfInBounds_toArray, List.set_cons_zero, List.set_cons_succ]
                        refine wpAnyH_take (i := 4) (v := ?_) rfl (by kernel_rfl) (by kernel_rfl) (by kernel_rfl) (fun _ _ _ h => h) (Or.inl ⟨by rfl, ?_⟩) (by assumption) ?_
                        case refine_2 => intro W hSw; go_simp; try rfl
                        try simp only [Act.put, List.getElem_toArray, List.getElem_cons_zero, List.getElem_cons_succ, List.setIfInBounds_toArray, List.set_cons_zero, List.set_cons_succ]
                        refine wpAnyH_take (i := 5) (v := .slice va9 (n - 9) (c - 9)) rfl (by kernel_rfl) (by kernel_rfl) (by kernel_rfl) (fun _ _ _ h => h) (Or.inl ⟨by rfl, fun W hSw => by rw [← HVA9.out]; exact slice8n_run (.tmp 70) (.const (.int .i64 9)) rfl (l := 9) rfl rfl hn9 hc⟩) (by assumption) ?_
                        try simp only [Act.put, List.getElem_toArray, List.getElem_cons_zero, List.getElem_cons_succ, List.setIfInBounds_toArray, List.set_cons_zero, List.set_cons_succ]
                        refine wpAnyH_ready (rs := [6, 11]) (by kernel_rfl) (by simp) ?_
                        refine AllReadyH.cons rfl (fun K hK => ?_) (AllReadyH.cons rfl (fun K hK => ?_) AllReadyH.nil)
                        case' refine_1 =>
                          go_simp
                          refine (HGU.out _ H6D.out).mono ?_
                          rintro e W7 ⟨⟨m, s7, kv, rfl⟩, hb7⟩
                          have HB7 : Hid (Below w6.heap.size w6 W7) := H6D.out.trans hb7
                          refine hK.out _ _ (HC6.out _ (HL6.out.bel HB7.out)) (fun hHeld => ?_)
                          clear hK K hb7
                          try simp only [Act.put, List.getElem_toArray, List.getElem_cons_zero, List.getElem_cons_succ, List.setIfInBounds_toArray, List.set_cons_zero, List.set_cons_succ]
                          refine wpAnyH_take (i := 7) (v := ?_) rfl (by kernel_rfl) (by kernel_rfl) (by kernel_rfl) (fun _ _ _ h => h) (Or.inl ⟨by rfl, ?_⟩) (by assumption) ?_
                          case refine_2 => intro W hSw; go_simp; try rfl
                          try simp only [Act.put, List.getElem_toArray, List.getElem_cons_zero, List.getElem_cons_succ, List.setIfInBounds_toArray, List.set_cons_zero, List.set_cons_succ]
                          refine wpAnyH_take (i := 8) (v := ?_) rfl (by kernel_rfl) (by kernel_rfl) (by kernel_rfl) (fun _ _ _ h => h) (Or.inl ⟨by rfl, ?_⟩) (by assumption) ?_
                          case refine_2 => intro W hSw; go_simp; try rfl
                          try simp only [Act.put, List.getElem_toArray, List.getElem_cons_zero, List.getElem_cons_succ, List.setIfInBounds_toArray, List.set_cons_zero, List.set_cons_succ]
                          refine wpAnyH_take (i := 9) (v := ?_) rfl (by kernel_rfl) (by kernel_rfl) (by kernel_rfl) (fun _ _ _ h => h) (Or.inl ⟨by rfl, ?_⟩) (by assumption) ?_
                          case refine_2 => intro W hSw; go_simp; try rfl
                          try simp only [Act.put, List.getElem_toArray, List.getElem_cons_zero, List.getElem_cons_succ, List.setIfInBounds_toArray, List.set_cons_zero, List.set_cons_succ]
                          refine wpAnyH_take (i := 10) (v := ?_) rfl (by kernel_rfl) (by kernel_rfl) (by kernel_rfl) (fun _ _ _ h => h) (Or.inl ⟨by rfl, ?_⟩) (by assumption) ?_
                          case refine_2 => intro W hSw; go_simp; try rfl
                          try simp only [Act.put, List.getElem_toArray, List.getElem_cons_zero, List.getElem_cons_succ, List.setIfInBounds_toArray, List.set_cons_zero, List.set_cons_succ]
                          refine wpAnyH_ready (rs := [11]) (by kernel_rfl) (by simp) ?_
                          refine AllReadyH.cons rfl (fun K hK => ?_) AllReadyH.nil
                          refine malloc_step rfl rfl (fun W8 b8 h8 hb8 he8 hz8 => ?_)
                          have HB8 : Hid (Below w6.heap.size w6 W8) := HB7.out.trans (hb8.out.mono HB7.out.size)
                          have HN8 : Hid (w6.heap.size ≤ b8) := by show _ ≤ _; rw [he8.out]; exact HB7.out.size
                          refine hK.out _ _ (HC6.out _ (HL6.out.bel HB8.out)) (fun hHeld => ?_)
                          clear hK K hb8 HB7 he8 hz8
                          try simp only [Act.put, List.getElem_toArray, List.getElem_cons_zero, List.getElem_cons_succ, List.setIfInBounds_toArray, List.set_cons_zero, List.set_cons_succ]
                        case' refine_2 =>
                          refine malloc_step rfl rfl (fun W7 b8 h87 hb7 he8 hz8 => ?_)
                          have HB7 : Hid (Below w6.heap.size w6 W7) := H6D.out.trans hb7.out
                          have HN8 : Hid (w6.heap.size ≤ b8) := by show _ ≤ _; rw [he8.out]; exact Nat.le_refl _
                          have HE8' : Hid (b8 = w6.heap.size) := he8.out
                          refine hK.out _ _ (HC6.out _ (HL6.out.bel HB7.out)) (fun hHeld => ?_)
                          clear hK K hb7 he8
                          try simp only [Act.put, List.getElem_toArray, List.getElem_cons_zero, List.getElem_cons_succ, List.setIfInBounds_toArray, List.set_cons_zero, List.set_cons_succ]
                          refine wpAnyH_ready (rs := [6]) (by kernel_rfl) (by simp) ?_
                          refine AllReadyH.cons rfl (fun K hK => ?_) AllReadyH.nil
                          go_simp
                          refine (HGU.out _ HB7.out).mono ?_
                          rintro e W8 ⟨⟨m, s7, kv, rfl⟩, hb8⟩
                          have HB8 : Hid (Below w6.heap.size w6 W8) := HB7.out.trans (hb8.mono HB7.out.size)
                          have h8 : Hid (MB b8 ms0 sZ W8) := h87.out.blk (hb8.block _ h87.out.lt)
                          refine hK.out _ _ (HC6.out _ (HL6.out.bel HB8.out)) (fun hHeld => ?_)
                          clear hK K hb8 HB7 hz8 h87 HE8'
                          try simp only [Act.put, List.getElem_toArray, List.getElem_cons_zero, List.getElem_cons_succ, List.setIfInBounds_toArray, List.set_cons_zero, List.set_cons_succ]
                          refine wpAnyH_take (i := 7) (v := ?_) rfl (by kernel_rfl) (by kernel_rfl) (by kernel_rfl) (fun _ _ _ h => h) (Or.inl ⟨by rfl, ?_⟩) (by assumption) ?_
                          case refine_2 => intro W hSw; go_simp; try rfl
                          try simp only [Act.put, List.getElem_toArray, List.getElem_cons_zero, List.getElem_cons_succ, List.setIfInBounds_toArray, List.set_cons_zero, List.set_cons_succ]
                          refine wpAnyH_take (i := 8) (v := ?_) rfl (by kernel_rfl) (by kernel_rfl) (by kernel_rfl) (fun _ _ _ h => h) (Or.inl ⟨by rfl, ?_⟩) (by assumption) ?_
                          case refine_2 => intro W hSw; go_simp; try rfl
                          try simp only [Act.put, List.getElem_toArray, List.getElem_cons_zero, List.getElem_cons_succ, List.setIfInBounds_toArray, List.set_cons_zero, List.set_cons_succ]
                          refine wpAnyH_take (i := 9) (v := ?_) rfl (by kernel_rfl) (by kernel_rfl) (by kernel_rfl) (fun _ _ _ h => h) (Or.inl ⟨by rfl, ?_⟩) (by assumption) ?_
                          case refine_2 => intro W hSw; go_simp; try rfl
                          try simp only [Act.put, List.getElem_toArray, List.getElem_cons_zero, List.getElem_cons_succ, List.setIfInBounds_toArray, List.set_cons_zero, List.set_cons_succ]
                          refine wpAnyH_take (i := 10) (v := ?_) rfl (by kernel_rfl) (by kernel_rfl) (by kernel_rfl) (fun _ _ _ h => h) (Or.inl ⟨by rfl, ?_⟩) (by assumption) ?_
                          case refine_2 => intro W hSw; go_simp; try rfl
                          try simp only [Act.put, List.getElem_toArray, List.getElem_cons_zero, List.getElem_cons_succ, List.setIfInBounds_toArray, List.set_cons_zero, List.set_cons_succ]
                        all_goals
                          refine wpAnyH_ready (rs := [12]) (by kernel_rfl) (by simp) ?_
                          refine AllReadyH.cons rfl (fun K hK => ?_) AllReadyH.nil
                          refine sstore_step MsK (.tmp 7) (.tmp 73) rfl (b := b8) (cs := msL ms0 sZ) (cs' := msL m s7) rfl rfl h8.out rfl rfl rfl rfl (fun W9 h9' hk9 => ?_)
                          have HB9 : Hid (Below w6.heap.size w6 W9) := HB8.out.trans (hk9.out.below HN8.out)
                          refine hK.out _ _ (HC6.out _ (HL6.out.bel HB9.out)) (fun hHeld => ?_)
                          clear hK K h8 hk9 HB8
                          try simp only [Act.put, List.getElem_toArray, List.getElem_cons_zero, List.getElem_cons_succ]
                          refine wpAnyH_take (i := 13) (v := ?_) rfl (by kernel_rfl) (by kernel_rfl) (by kernel_rfl) (fun _ _ _ h => h) (Or.inl ⟨by rfl, ?_⟩) (by assumption) ?_
                          case refine_2 => intro W hSw; go_simp; try rfl
                          try simp only [Act.put, List.getElem_toArray, List.getElem_cons_zero, List.getElem_cons_succ, List.setIfInBounds_toArray, List.set_cons_zero, List.set_cons_succ]
                          refine wpAnyH_take (i := 14) (v := ?_) rfl (by kernel_rfl) (by kernel_rfl) (by kernel_rfl) (fun _ _ _ h => h) (Or.inl ⟨by rfl, ?_⟩) (by assumption) ?_
                          case refine_2 => intro W hSw; go_simp; try rfl
                          try simp only [Act.put, List.getElem_toArray, List.getElem_cons_zero, List.getElem_cons_succ, List.setIfInBounds_toArray, List.set_cons_zero, List.set_cons_succ]
                          refine wpAnyH_done (by kernel_rfl) ?_ _
                          clear hHeld
                          have HS9 : Hid (GuS w b2 b4 W9 ms0 sZ) := HS6.out.bel2 HB9.out
                          go_wp2_with (first | (refine list_sload MsK rfl _ rfl (b := b4) (cs := msL ms0 sZ) rfl HS9.out.m7 rfl ?_) | (refine list_sstore MsK rfl _ _ rfl (b := b2) (cs := msL ms0 sZ) (cs' := msL ms0 sZ) rfl rfl HS9.out.m4 rfl rfl rfl ?_))
                          intro W5 hm5 hk5
                          have HQ5 := dd_post HS9.out hk5.out (ddec_none HF4.out HK6.out HOG.out)
                          clear hk5 HS9
                          go_wp2_with fail
                          exact bodyPost_ret (dd_res hm5.out rfl rfl) rfl HQ5
                      | some q =>
                        obtain ⟨m, kp⟩ := q
                        refine wp_region_held_drew (S := fun W => W.cell? ⟨b, o + 6, none⟩ = some (.int .u8 (kd : Int))) (by kernel_rfl) (HC6.out _ (HL6.out.bel H6D.out)) (fun hHeld => ?_)
                        refine wpAnyH_take (i := 0) (v := ?_) rfl (by kernel_rfl) (by kernel_rfl) (by kernel_rfl) (fun _ _ _ h => h) (Or.inl ⟨by rfl, ?_⟩) (by assumption) ?_
                        case refine_2 => intro W hSw; go_simp; try rfl
                        try simp only [Act.put, List.getElem_toArray, List.getElem_cons_zero, List.setIfInBounds_toArray, List.set_cons_zero, List.set_cons_succ]
                        refine wpAnyH_take (i := 1) (v := .pointer (some ⟨b, o + 6, none⟩)) rfl (by kernel_rfl) (by kernel_rfl) (by kernel_rfl) (fun _ _ _ h => h) (Or.inl ⟨by rfl, fun W hSw => by go_simp; try rfl⟩) (by assumption) ?_
                        try simp only [Act.put, List.getElem_toArray, List.getElem_cons_zero, List.getElem_cons_succ, List.setIfInBounds_toArray, List.set_cons_zero, List.set_cons_succ]
                        refine wpAnyH_take (i := 2) (v := .int .u8 (kd : Int)) rfl (by kernel_rfl) (by kernel_rfl) (by kernel_rfl) (fun _ _ _ h => h) (Or.inl ⟨by rfl, fun W hSw => by go_simp; try rfl⟩) (by assumption) ?_
                        try simp only [Act.put, List.getElem_toArray, List.getElem_cons_zero, List.getElem_cons_succ, List.setIfInBounds_toArray, List.set_cons_zero, List.set_cons_succ]
                        refine wpAnyH_take (i := 3) (v := .int .i64 (kd : Int)) rfl (by kernel_rfl) (by kernel_rfl) (by kernel_rfl) (fun _ _ _ h => h) (Or.inl ⟨by rfl, fun W hSw => by go_simp; try rfl⟩) (by assumption) ?_
                        try simp only [Act.put, List.getElem_toArray, List.getElem_cons_zero, List.getElem_cons_succ, List.setIfInBounds_toArray, List.set_cons_zero, List.set_cons_succ]
                        refine wpAnyH_take (i := 4) (v := ?_) rfl (by kernel_rfl) (by kernel_rfl) (by kernel_rfl) (fun _ _ _ h => h) (Or.inl ⟨by rfl, ?_⟩) (by assumption) ?_
                        case refine_2 => intro W hSw; go_simp; try rfl
                        try simp only [Act.put, List.getElem_toArray, List.getElem_cons_zero, List.getElem_cons_succ, List.setIfInBounds_toArray, List.set_cons_zero, List.set_cons_succ]
                        refine wpAnyH_take (i := 5) (v := .slice va9 (n - 9) (c - 9)) rfl (by kernel_rfl) (by kernel_rfl) (by kernel_rfl) (fun _ _ _ h => h) (Or.inl ⟨by rfl, fun W hSw => by rw [← HVA9.out]; exact slice8n_run (.tmp 70) (.const (.int .i64 9)) rfl (l := 9) rfl rfl hn9 hc⟩) (by assumption) ?_
                        try simp only [Act.put, List.getElem_toArray, List.getElem_cons_zero, List.getElem_cons_succ, List.setIfInBounds_toArray, List.set_cons_zero, List.set_cons_succ]
                        refine wpAnyH_ready (rs := [6, 11]) (by kernel_rfl) (by simp) ?_
                        refine AllReadyH.cons rfl (fun K hK => ?_) (AllReadyH.cons rfl (fun K hK => ?_) AllReadyH.nil)
                        case' refine_1 =>
                          go_simp
                          refine (HGU.out _ H6D.out).mono ?_
                          rintro e W7 ⟨s7, ka, kn, kc, rfl, hmo, hlk, hkn, hka, hb7⟩
                          have HB7 : Hid (Below w6.heap.size w6 W7) := H6D.out.trans hb7
                          have HMO7 : Hid (MO w6.heap.size W7 m s7) := hmo
                          have HLK7 : Hid (Lst E8 W7 ka kp) := hlk
                          have HKN : Hid (kp.length = kn) := hkn
                          clear hmo hlk hkn hka
                          refine hK.out _ _ (HC6.out _ (HL6.out.bel HB7.out)) (fun hHeld => ?_)
                          clear hK K hb7
                          try simp only [Act.put, List.getElem_toArray, List.getElem_cons_zero, List.getElem_cons_succ, List.setIfInBounds_toArray, List.set_cons_zero, List.set_cons_succ]
                          refine wpAnyH_take (i := 7) (v := ?_) rfl (by kernel_rfl) (by kernel_rfl) (by kernel_rfl) (fun _ _ _ h => h) (Or.inl ⟨by rfl, ?_⟩) (by assumption) ?_
                          case refine_2 => intro W hSw; go_simp; try rfl
                          try simp only [Act.put, List.getElem_toArray, List.getElem_cons_zero, List.getElem_cons_succ, List.setIfInBounds_toArray, List.set_cons_zero, List.set_cons_succ]
                          refine wpAnyH_take (i := 8) (v := ?_) rfl (by kernel_rfl) (by kernel_rfl) (by kernel_rfl) (fun _ _ _ h => h) (Or.inl ⟨by rfl, ?_⟩) (by assumption) ?_
                          case refine_2 => intro W hSw; go_simp; try rfl
                          try simp only [Act.put, List.getElem_toArray, List.getElem_cons_zero, List.getElem_cons_succ, List.setIfInBounds_toArray, List.set_cons_zero, List.set_cons_succ]
                          refine wpAnyH_take (i := 9) (v := ?_) rfl (by kernel_rfl) (by kernel_rfl) (by kernel_rfl) (fun _ _ _ h => h) (Or.inl ⟨by rfl, ?_⟩) (by assumption) ?_
                          case refine_2 => intro W hSw; go_simp; try rfl
                          try simp only [Act.put, List.getElem_toArray, List.getElem_cons_zero, List.getElem_cons_succ, List.setIfInBounds_toArray, List.set_cons_zero, List.set_cons_succ]
                          refine wpAnyH_take (i := 10) (v := ?_) rfl (by kernel_rfl) (by kernel_rfl) (by kernel_rfl) (fun _ _ _ h => h) (Or.inl ⟨by rfl, ?_⟩) (by assumption) ?_
                          case refine_2 => intro W hSw; go_simp; try rfl
                          try simp only [Act.put, List.getElem_toArray, List.getElem_cons_zero, List.getElem_cons_succ, List.setIfInBounds_toArray, List.set_cons_zero, List.set_cons_succ]
                          refine wpAnyH_ready (rs := [11]) (by kernel_rfl) (by simp) ?_
                          refine AllReadyH.cons rfl (fun K hK => ?_) AllReadyH.nil
                          refine malloc_step rfl rfl (fun W8 b8 h8 hb8 he8 hz8 => ?_)
                          have HB8 : Hid (Below w6.heap.size w6 W8) := HB7.out.trans (hb8.out.mono HB7.out.size)
                          have HN8 : Hid (w6.heap.size ≤ b8) := by show _ ≤ _; rw [he8.out]; exact HB7.out.size
                          have HMO8 : Hid (MO w6.heap.size W8 m s7) := HMO7.out.blk (fun g _ _ hl => hb8.out.block g hl)
                          have HAP8 : Hid (∀ g, Mown s7 g → g ≠ b8) := fun g hg => by have := (HMO7.out.rng g hg).2; have := he8.out; omega
                          have HLK8 : Hid (∀ W, Ko W8 b8 W → Lst E8 W ka kp) := fun W hk => HLK7.out.keep (by rw [hk.size]; exact hb8.out.size) (fun g _ _ hl => (hk.block g (by have := he8.out; omega)).trans (hb8.out.block g hl))
                          clear HMO7 HLK7
                          refine hK.out _ _ (HC6.out _ (HL6.out.bel HB8.out)) (fun hHeld => ?_)
                          clear hK K hb8 HB7 he8 hz8
                          try simp only [Act.put, List.getElem_toArray, List.getElem_cons_zero, List.getElem_cons_succ, List.setIfInBounds_toArray, List.set_cons_zero, List.set_cons_succ]
                        case' refine_2 =>
                          refine malloc_step rfl rfl (fun W7 b8 h87 hb7 he8 hz8 => ?_)
                          have HB7 : Hid (Below w6.heap.size w6 W7) := H6D.out.trans hb7.out
                          have HN8 : Hid (w6.heap.size ≤ b8) := by show _ ≤ _; rw [he8.out]; exact Nat.le_refl _
                          have HE8' : Hid (b8 = w6.heap.size) := he8.out
                          refine hK.out _ _ (HC6.out _ (HL6.out.bel HB7.out)) (fun hHeld => ?_)
                          clear hK K hb7 he8
                          try simp only [Act.put, List.getElem_toArray, List.getElem_cons_zero, List.getElem_cons_succ, List.setIfInBounds_toArray, List.set_cons_zero, List.set_cons_succ]
                          refine wpAnyH_ready (rs := [6]) (by kernel_rfl) (by simp) ?_
                          refine AllReadyH.cons rfl (fun K hK => ?_) AllReadyH.nil
                          go_simp
                          refine (HGU.out _ HB7.out).mono ?_
                          rintro e W8 ⟨s7, ka, kn, kc, rfl, hmo, hlk, hkn, hka, hb8⟩
                          have HB8 : Hid (Below w6.heap.size w6 W8) := HB7.out.trans (hb8.mono HB7.out.size)
                          have h8 : Hid (MB b8 ms0 sZ W8) := h87.out.blk (hb8.block _ h87.out.lt)
                          have HMO8 : Hid (MO w6.heap.size W8 m s7) := hmo.mono HB7.out.size
                          have HAP8 : Hid (∀ g, Mown s7 g → g ≠ b8) := fun g hg => by have := (hmo.rng g hg).1; have := hz8.out; omega
                          have HKN : Hid (kp.length = kn) := hkn
                          have HLK8 : Hid (∀ W, Ko W8 b8 W → Lst E8 W ka kp) := fun W hk => hlk.keep (by rw [hk.size]; exact Nat.le_refl _) (fun g oo eo hl => hk.block g (fun e8 => by
                            rcases hka _ eo with ⟨ad0, e1, e2⟩ | e2
                            · have e3 := HVB.out ad0 e1
                              have e4 : g = ad0.block := e2
                              have := HS6.out.bel.size
                              have := HE8'.out
                              omega
                            · have e4 : W7.heap.size ≤ g := e2
                              have := hz8.out
                              omega))
                          clear hmo hlk hkn hka
                          refine hK.out _ _ (HC6.out _ (HL6.out.bel HB8.out)) (fun hHeld => ?_)
                          clear hK K hb8 HB7 hz8 h87 HE8'
                          try simp only [Act.put, List.getElem_toArray, List.getElem_cons_zero, List.getElem_cons_succ, List.setIfInBounds_toArray, List.set_cons_zero, List.set_cons_succ]
                          refine wpAnyH_take (i := 7) (v := ?_) rfl (by kernel_rfl) (by kernel_rfl) (by kernel_rfl) (fun _ _ _ h => h) (Or.inl ⟨by rfl, ?_⟩) (by assumption) ?_
                          case refine_2 => intro W hSw; go_simp; try rfl
                          try simp only [Act.put, List.getElem_toArray, List.getElem_cons_zero, List.getElem_cons_succ, List.setIfInBounds_toArray, List.set_cons_zero, List.set_cons_succ]
                          refine wpAnyH_take (i := 8) (v := ?_) rfl (by kernel_rfl) (by kernel_rfl) (by kernel_rfl) (fun _ _ _ h => h) (Or.inl ⟨by rfl, ?_⟩) (by assumption) ?_
                          case refine_2 => intro W hSw; go_simp; try rfl
                          try simp only [Act.put, List.getElem_toArray, List.getElem_cons_zero, List.getElem_cons_succ, List.setIfInBounds_toArray, List.set_cons_zero, List.set_cons_succ]
                          refine wpAnyH_take (i := 9) (v := ?_) rfl (by kernel_rfl) (by kernel_rfl) (by kernel_rfl) (fun _ _ _ h => h) (Or.inl ⟨by rfl, ?_⟩) (by assumption) ?_
                          case refine_2 => intro W hSw; go_simp; try rfl
                          try simp only [Act.put, List.getElem_toArray, List.getElem_cons_zero, List.getElem_cons_succ, List.setIfInBounds_toArray, List.set_cons_zero, List.set_cons_succ]
                          refine wpAnyH_take (i := 10) (v := ?_) rfl (by kernel_rfl) (by kernel_rfl) (by kernel_rfl) (fun _ _ _ h => h) (Or.inl ⟨by rfl, ?_⟩) (by assumption) ?_
                          case refine_2 => intro W hSw; go_simp; try rfl
                          try simp only [Act.put, List.getElem_toArray, List.getElem_cons_zero, List.getElem_cons_succ, List.setIfInBounds_toArray, List.set_cons_zero, List.set_cons_succ]
                        all_goals
                          refine wpAnyH_ready (rs := [12]) (by kernel_rfl) (by simp) ?_
                          refine AllReadyH.cons rfl (fun K hK => ?_) AllReadyH.nil
                          refine sstore_step MsK (.tmp 7) (.tmp 73) rfl (b := b8) (cs := msL ms0 sZ) (cs' := msL m s7) rfl rfl h8.out rfl rfl rfl rfl (fun W9 h9' hk9 => ?_)
                          have HB9 : Hid (Below w6.heap.size w6 W9) := HB8.out.trans (hk9.out.below HN8.out)
                          have HMO9 : Hid (MO w6.heap.size W9 m s7) := HMO8.out.blk (fun g hg _ _ => hk9.out.block g (HAP8.out g hg))
                          have HLK9 : Hid (Lst E8 W9 ka kp) := HLK8.out W9 hk9.out
                          clear HMO8 HLK8
                          refine hK.out _ _ (HC6.out _ (HL6.out.bel HB9.out)) (fun hHeld => ?_)
                          clear hK K h8 hk9 HB8
                          try simp only [Act.put, List.getElem_toArray, List.getElem_cons_zero, List.getElem_cons_succ]
                          refine wpAnyH_take (i := 13) (v := ?_) rfl (by kernel_rfl) (by kernel_rfl) (by kernel_rfl) (fun _ _ _ h => h) (Or.inl ⟨by rfl, ?_⟩) (by assumption) ?_
                          case refine_2 => intro W hSw; go_simp; try rfl
                          try simp only [Act.put, List.getElem_toArray, List.getElem_cons_zero, List.getElem_cons_succ, List.setIfInBounds_toArray, List.set_cons_zero, List.set_cons_succ]
                          refine wpAnyH_take (i := 14) (v := ?_) rfl (by kernel_rfl) (by kernel_rfl) (by kernel_rfl) (fun _ _ _ h => h) (Or.inl ⟨by rfl, ?_⟩) (by assumption) ?_
                          case refine_2 => intro W hSw; go_simp; try rfl
                          try simp only [Act.put, List.getElem_toArray, List.getElem_cons_zero, List.getElem_cons_succ, List.setIfInBounds_toArray, List.set_cons_zero, List.set_cons_succ]
                          refine wpAnyH_done (by kernel_rfl) ?_ _
                          clear hHeld
                          have HS9 : Hid (GuS w b2 b4 W9 ms0 sZ) := HS6.out.bel2 HB9.out
                          obtain ⟨eb, heb⟩ : ∃ y, encB m = y := ⟨_, rfl⟩
                          obtain ⟨er, her⟩ : ∃ y, encE m = y := ⟨_, rfl⟩
                          have HEB : Hid (encB m = eb) := heb
                          have HER : Hid (encE m = er) := her
                          obtain ⟨hgu, hgl, hgh⟩ := guess_u8 (drop_u8 HU.out 9) HOG.out
                          have HUKP : Hid (∀ d ∈ kp, d < 256) := hgu
                          have HENC := rencode_any m s7 W9 HMO9.out.ok (by rw [HLD9.out] at hgl hgh; omega) eb er heb her
                          clear heb her hgu hgl hgh
                          go_wp2_with (refine list_sload MsK rfl _ rfl (b := b8) (cs := msL m s7) rfl h9'.out rfl ?_)
                          refine HENC.mono ?_
                          rintro e w10 ⟨v10, rfl, ho10, hb10⟩
                          have HB10 : Hid (Below W9.heap.size W9 w10) := hb10
                          have HS10 : Hid (GuS w b2 b4 w10 ms0 sZ) := HS9.out.bel2 hb10
                          have H10 : Hid (SB MsK b8 (msL m s7) w10) := SB.blk h9'.out (hb10.block _ (SB.lt h9'.out))
                          have HMO10 : Hid (MO w6.heap.size w10 m s7) := HMO9.out.blk (fun g _ _ hl => hb10.block g hl)
                          have HLK10 : Hid (Lst E8 w10 ka kp) := HLK9.out.bel hb10
                          have HO10 : Hid (OwnL E8 W9.heap.size w10 v10 eb) := ho10
                          obtain ⟨ea, ec, hv10, hec, hnl10, -⟩ := ho10.form
                          obtain ⟨el, hel⟩ : ∃ y, eb.length = y := ⟨_, rfl⟩
                          have HEL : Hid (eb.length = el) := hel
                          rw [hel] at hv10 hec
                          subst hv10
                          clear HENC ho10 hb10 hel hnl10 HS9 HMO9 HLK9 h9'
                          go_wp2_with fail
                          have HDR : Hid (Below w10.heap.size w10 w10.drew) := drew_bel w10
                          have HS11 : Hid (GuS w b2 b4 w10.drew ms0 sZ) := HS10.out.bel2 HDR.out
                          have H11 : Hid (SB MsK b8 (msL m s7) w10.drew) := SB.blk H10.out (HDR.out.block _ (SB.lt H10.out))
                          have HMO11 : Hid (MO w6.heap.size w10.drew m s7) := HMO10.out.blk (fun g _ _ hl => HDR.out.block g hl)
                          have HLK11 : Hid (Lst E8 w10.drew ka kp) := HLK10.out.bel HDR.out
                          have HO11 : Hid (OwnL E8 W9.heap.size w10.drew (.slice ea el ec) eb) := HO10.out.bel HDR.out
                          refine wp_region_held_drew (S := fun W => W = w10.drew) (by kernel_rfl) rfl (fun hHeld => ?_)
                          obtain ⟨X, hX⟩ : ∃ x, w10.drew = x := ⟨_, rfl⟩
                          rw [hX] at HS11 H11 HMO11 HLK11 HO11 hHeld ⊢
                          clear hX HDR HS10 H10 HMO10 HLK10 HO10 HB10
                          by_cases he0 : er = 0
                          · subst he0
                            obtain ⟨hck, hfr⟩ := enc_parts HER.out
                            have hel9 : 9 ≤ el := by rw [← HEL.out, ← HEB.out, hfr, frame_len]; omega
                            have HUEB : Hid (∀ d ∈ eb.drop 9, d < 256) := fun d hd => by
                              rw [← HEB.out, hfr, (frame_drops m.kind.toNat (Pv.body m)).2.2.2.2] at hd
                              exact body_u8 m d hd
                            clear hck hfr
                            obtain ⟨be, oe, rfl, -, -⟩ := lst8 HO11.out.lst.1 0 (by rw [HEL.out]; omega)
                            obtain ⟨vx, hvx⟩ : ∃ y : Option Addr, (if ec = 9 then some (⟨be, oe, none⟩ : Addr) else some ⟨be, oe + 9, none⟩) = y := ⟨_, rfl⟩
                            have HVX : Hid ((if ec = 9 then some (⟨be, oe, none⟩ : Addr) else some ⟨be, oe + 9, none⟩) = vx) := hvx
                            have HTX : Hid (Lst E8 X vx (eb.drop 9)) := by
                              show Lst _ _ _ _
                              rw [← HVX.out]
                              by_cases hck : ec = 9
                              · have : eb.drop 9 = [] := List.length_eq_zero_iff.1 (by rw [List.length_drop, HEL.out]; omega)
                                rw [this]
                                exact ⟨by simp, fun i hi => absurd hi (by simp)⟩
                              · rw [if_neg hck]
                                exact HO11.out.lst.1.drop 9
                            have h1 := conv_by (cap := ec - 9) HTX.out (show (eb.drop 9).length = el - 9 by rw [List.length_drop, HEL.out])
                            have h2 := conv_by (cap := kc) HLK11.out HKN.out
                            obtain ⟨S1, hS1⟩ : ∃ S, strOfNums ((eb.drop 9).map (fun x : Nat => (x : Int))) = S := ⟨_, rfl⟩
                            obtain ⟨R1, hR1⟩ : ∃ S, strOfNums (kp.map (fun x : Nat => (x : Int))) = S := ⟨_, rfl⟩
                            have HSR : Hid (S1.toList = R1.toList ↔ eb.drop 9 = kp) := by
                              rw [← hS1, ← hR1, str_list, str_list]
                              exact ⟨map_inj8 HUEB.out HUKP.out, fun e => by rw [e]⟩
                            have HSE : Hid (eb.drop 9 = kp → S1 = R1) := fun e => by rw [← hS1, ← hR1, e]
                            rw [hS1] at h1
                            rw [hR1] at h2
                            have H1 : Hid ((convert 22 9 (.slice vx (el - 9) (ec - 9))).run Try.prog X = .ok (.string S1) X) := h1
                            have H2 : Hid ((convert 22 9 (.slice ka kn kc)).run Try.prog X = .ok (.string R1) X) := h2
                            clear h1 h2 hS1 hR1 hvx HTX
                            refine wpAnyH_take (i := 0) (v := ?_) rfl (by kernel_rfl) (by kernel_rfl) (by kernel_rfl) (fun _ _ _ h => h) (Or.inl ⟨by rfl, ?_⟩) (by assumption) ?_
                            case refine_2 => intro W hSw; go_simp; try rfl
                            try simp only [Act.put, List.getElem_toArray, List.getElem_cons_zero, List.setIfInBounds_toArray, List.set_cons_zero, List.set_cons_succ]
                            refine wpAnyH_take (i := 1) (v := ?_) rfl (by kernel_rfl) (by kernel_rfl) (by kernel_rfl) (fun _ _ _ h => h) (Or.inl ⟨by rfl, ?_⟩) (by assumption) ?_
                            case refine_2 => intro W hSw; go_simp; try rfl
                            try simp only [Act.put, List.getElem_toArray, List.getElem_cons_zero, List.getElem_cons_succ, List.setIfInBounds_toArray, List.set_cons_zero, List.set_cons_succ]
                            refine wpAnyH_take (i := 2) (v := ?_) rfl (by kernel_rfl) (by kernel_rfl) (by kernel_rfl) (fun _ _ _ h => h) (Or.inl ⟨by rfl, ?_⟩) (by assumption) ?_
                            case refine_2 => intro W hSw; go_simp; try rfl
                            try simp only [Act.put, List.getElem_toArray, List.getElem_cons_zero, List.getElem_cons_succ, List.setIfInBounds_toArray, List.set_cons_zero, List.set_cons_succ]
                            refine wpAnyH_take (i := 3) (v := ?_) rfl (by kernel_rfl) (by kernel_rfl) (by kernel_rfl) (fun _ _ _ h => h) (Or.inl ⟨by rfl, ?_⟩) (by assumption) ?_
                            case refine_2 => intro W hSw; go_simp; try rfl
                            try simp only [Act.put, List.getElem_toArray, List.getElem_cons_zero, List.getElem_cons_succ, List.setIfInBounds_toArray, List.set_cons_zero, List.set_cons_succ]
                            refine wpAnyH_take (i := 4) (v := .slice vx (el - 9) (ec - 9)) rfl (by kernel_rfl) (by kernel_rfl) (by kernel_rfl) (fun _ _ _ h => h) (Or.inl ⟨by rfl, fun W hSw => by rw [← HVX.out]; exact slice8n_run (.tmp 87) (.const (.int .i64 9)) rfl (l := 9) rfl rfl hel9 hec⟩) (by assumption) ?_
                            try simp only [Act.put, List.getElem_toArray, List.getElem_cons_zero, List.getElem_cons_succ, List.setIfInBounds_toArray, List.set_cons_zero, List.set_cons_succ]
                            refine wpAnyH_take (i := 5) (v := .string S1) rfl (by kernel_rfl) (by kernel_rfl) (by kernel_rfl) (fun _ _ _ h => h) (Or.inl ⟨by rfl, fun W hSw => by rw [hSw]; exact conv_run (.tmp 88) rfl rfl H1.out⟩) (by assumption) ?_
                            try simp only [Act.put, List.getElem_toArray, List.getElem_cons_zero, List.getElem_cons_succ, List.setIfInBounds_toArray, List.set_cons_zero, List.set_cons_succ]
                            refine wpAnyH_take (i := 6) (v := ?_) rfl (by kernel_rfl) (by kernel_rfl) (by kernel_rfl) (fun _ _ _ h => h) (Or.inl ⟨by rfl, ?_⟩) (by assumption) ?_
                            case refine_2 => intro W hSw; go_simp; try rfl
                            try simp only [Act.put, List.getElem_toArray, List.getElem_cons_zero, List.getElem_cons_succ, List.setIfInBounds_toArray, List.set_cons_zero, List.set_cons_succ]
                            refine wpAnyH_take (i := 7) (v := .string R1) rfl (by kernel_rfl) (by kernel_rfl) (by kernel_rfl) (fun _ _ _ h => h) (Or.inl ⟨by rfl, fun W hSw => by rw [hSw]; exact conv_run (.tmp 90) rfl rfl H2.out⟩) (by assumption) ?_
                            try simp only [Act.put, List.getElem_toArray, List.getElem_cons_zero, List.getElem_cons_succ, List.setIfInBounds_toArray, List.set_cons_zero, List.set_cons_succ]
                            by_cases hsr : S1.toList = R1.toList
                            · have HDE : Hid (ddec xs = (m, 0)) := by show _ = _; rw [ddec_some HF4.out HK6.out HOG.out, if_pos ⟨HER.out, by rw [HEB.out]; exact HSR.out.1 hsr⟩]
                              obtain rfl : S1 = R1 := HSE.out (HSR.out.1 hsr)
                              clear hsr
                              refine wpAnyH_take (i := 8) (v := ?_) rfl (by kernel_rfl) (by kernel_rfl) (by kernel_rfl) (fun _ _ _ h => h) (Or.inl ⟨by rfl, ?_⟩) (by assumption) ?_
                              case refine_2 => intro W hSw; go_simp; try rfl
                              try simp only [Act.put, List.getElem_toArray, List.getElem_cons_zero, List.getElem_cons_succ, List.setIfInBounds_toArray, List.set_cons_zero, List.set_cons_succ]
                              refine wpAnyH_take (i := 9) (v := ?_) rfl (by kernel_rfl) (by kernel_rfl) (by kernel_rfl) (fun _ _ _ h => h) (Or.inl ⟨by rfl, ?_⟩) (by assumption) ?_
                              case refine_2 => intro W hSw; go_simp; try rfl
                              try simp only [Act.put, List.getElem_toArray, List.getElem_cons_zero, List.getElem_cons_succ, List.setIfInBounds_toArray, List.set_cons_zero, List.set_cons_succ]
                              refine wpAnyH_done (by kernel_rfl) ?_ _
                              clear hHeld
                              go_wp2_with (first | (refine list_sload MsK rfl _ rfl (b := b8) (cs := msL m s7) rfl H11.out rfl ?_) | (refine list_sstore MsK rfl _ _ rfl (b := b2) (cs := msL ms0 sZ) (cs' := msL m s7) rfl rfl HS11.out.m4 rfl rfl rfl ?_))
                              intro W12 hm12 hk12
                              have HQ5 := dd_done HMO11.out HS11.out.bel HS6.out.bel.size hk12.out HS11.out.h4 (by have := H26.out; omega) HDE.out
                              clear hk12 HS11 HMO11
                              go_wp2_with fail
                              exact bodyPost_ret (dd_res hm12.out rfl rfl) rfl HQ5
                            · have HDE : Hid (ddec xs = (ms0, 4)) := by show _ = _; rw [ddec_some HF4.out HK6.out HOG.out, if_neg (fun cc => hsr (HSR.out.2 (by rw [← HEB.out]; exact cc.2)))]
                              have hsrb : (S1.toList == R1.toList) = false := by simpa using hsr
                              have hsrn : (S1.toList != R1.toList) = true := by simpa using hsr
                              refine wpAnyH_take (i := 8) (v := ?_) rfl (by kernel_rfl) (by kernel_rfl) (by kernel_rfl) (fun _ _ _ h => h) (Or.inl ⟨by rfl, ?_⟩) (by assumption) ?_
                              case refine_2 => intro W hSw; go_simp; try rfl
                              try simp only [Act.put, List.getElem_toArray, List.getElem_cons_zero, List.getElem_cons_succ, List.setIfInBounds_toArray, List.set_cons_zero, List.set_cons_succ]
                              refine wpAnyH_take (i := 9) (v := ?_) rfl (by kernel_rfl) (by kernel_rfl) (by kernel_rfl) (fun _ _ _ h => h) (Or.inl ⟨by rfl, ?_⟩) (by assumption) ?_
                              case refine_2 => intro W hSw; go_simp; try rfl
                              try simp only [Act.put, List.getElem_toArray, List.getElem_cons_zero, List.getElem_cons_succ, List.setIfInBounds_toArray, List.set_cons_zero, List.set_cons_succ]
                              refine wpAnyH_done (by kernel_rfl) ?_ _
                              clear hHeld
                              go_wp2_with (first | (refine list_sload MsK rfl _ rfl (b := b4) (cs := msL ms0 sZ) rfl HS11.out.m7 rfl ?_) | (refine list_sstore MsK rfl _ _ rfl (b := b2) (cs := msL ms0 sZ) (cs' := msL ms0 sZ) rfl rfl HS11.out.m4 rfl rfl rfl ?_))
                              intro W5 hm5 hk5
                              have HQ5 := dd_post HS11.out hk5.out (HDE.out)
                              clear hk5 HS11
                              go_wp2_with fail
                              exact bodyPost_ret (dd_res hm5.out rfl rfl) rfl HQ5
                          · have he0b : (er != 0) = true := by simpa using he0
                            have HDE : Hid (ddec xs = (ms0, 4)) := by show _ = _; rw [ddec_some HF4.out HK6.out HOG.out, if_neg (fun cc => he0 (by rw [← HER.out]; exact cc.1))]
                            refine wpAnyH_take (i := 0) (v := ?_) rfl (by kernel_rfl) (by kernel_rfl) (by kernel_rfl) (fun _ _ _ h => h) (Or.inl ⟨by rfl, ?_⟩) (by assumption) ?_
                            case refine_2 => intro W hSw; go_simp; try rfl
                            try simp only [Act.put, List.getElem_toArray, List.getElem_cons_zero, List.setIfInBounds_toArray, List.set_cons_zero, List.set_cons_succ]
                            refine wpAnyH_take (i := 1) (v := .bool true) rfl (by kernel_rfl) (by kernel_rfl) (by kernel_rfl) (fun _ _ _ h => h) (Or.inl ⟨by rfl, fun W hSw => by go_simp; try (simpa using he0)⟩) (by assumption) ?_
                            try simp only [Act.put, List.getElem_toArray, List.getElem_cons_zero, List.getElem_cons_succ, List.setIfInBounds_toArray, List.set_cons_zero, List.set_cons_succ]
                            refine wpAnyH_take (i := 2) (v := ?_) rfl (by kernel_rfl) (by kernel_rfl) (by kernel_rfl) (fun _ _ _ h => h) (Or.inl ⟨by rfl, ?_⟩) (by assumption) ?_
                            case refine_2 => intro W hSw; go_simp; try rfl
                            try simp only [Act.put, List.getElem_toArray, List.getElem_cons_zero, List.getElem_cons_succ, List.setIfInBounds_toArray, List.set_cons_zero, List.set_cons_succ]
                            refine wpAnyH_take (i := 3) (v := undef) rfl (by kernel_rfl) (by kernel_rfl) (by kernel_rfl) (fun _ _ _ h => h) (Or.inr ⟨by rfl, rfl⟩) (by assumption) ?_
                            try simp only [Act.put, List.getElem_toArray, List.getElem_cons_zero, List.getElem_cons_succ, List.setIfInBounds_toArray, List.set_cons_zero, List.set_cons_succ]
                            refine wpAnyH_take (i := 4) (v := undef) rfl (by kernel_rfl) (by kernel_rfl) (by kernel_rfl) (fun _ _ _ h => h) (Or.inr ⟨by rfl, rfl⟩) (by assumption) ?_
                            try simp only [Act.put, List.getElem_toArray, List.getElem_cons_zero, List.getElem_cons_succ, List.setIfInBounds_toArray, List.set_cons_zero, List.set_cons_succ]
                            refine wpAnyH_take (i := 5) (v := undef) rfl (by kernel_rfl) (by kernel_rfl) (by kernel_rfl) (fun _ _ _ h => h) (Or.inr ⟨by rfl, rfl⟩) (by assumption) ?_
                            try simp only [Act.put, List.getElem_toArray, List.getElem_cons_zero, List.getElem_cons_succ, List.setIfInBounds_toArray, List.set_cons_zero, List.set_cons_succ]
                            refine wpAnyH_take (i := 6) (v := undef) rfl (by kernel_rfl) (by kernel_rfl) (by kernel_rfl) (fun _ _ _ h => h) (Or.inr ⟨by rfl, rfl⟩) (by assumption) ?_
                            try simp only [Act.put, List.getElem_toArray, List.getElem_cons_zero, List.getElem_cons_succ, List.setIfInBounds_toArray, List.set_cons_zero, List.set_cons_succ]
                            refine wpAnyH_take (i := 7) (v := undef) rfl (by kernel_rfl) (by kernel_rfl) (by kernel_rfl) (fun _ _ _ h => h) (Or.inr ⟨by rfl, rfl⟩) (by assumption) ?_
                            try simp only [Act.put, List.getElem_toArray, List.getElem_cons_zero, List.getElem_cons_succ, List.setIfInBounds_toArray, List.set_cons_zero, List.set_cons_succ]
                            refine wpAnyH_take (i := 8) (v := undef) rfl (by kernel_rfl) (by kernel_rfl) (by kernel_rfl) (fun _ _ _ h => h) (Or.inr ⟨by rfl, rfl⟩) (by assumption) ?_
                            try simp only [Act.put, List.getElem_toArray, List.getElem_cons_zero, List.getElem_cons_succ, List.setIfInBounds_toArray, List.set_cons_zero, List.set_cons_succ]
                            refine wpAnyH_take (i := 9) (v := ?_) rfl (by kernel_rfl) (by kernel_rfl) (by kernel_rfl) (fun _ _ _ h => h) (Or.inl ⟨by rfl, ?_⟩) (by assumption) ?_
                            case refine_2 => intro W hSw; go_simp; try rfl
                            try simp only [Act.put, List.getElem_toArray, List.getElem_cons_zero, List.getElem_cons_succ, List.setIfInBounds_toArray, List.set_cons_zero, List.set_cons_succ]
                            refine wpAnyH_done (by kernel_rfl) ?_ _
                            clear hHeld
                            go_wp2_with (first | (refine list_sload MsK rfl _ rfl (b := b4) (cs := msL ms0 sZ) rfl HS11.out.m7 rfl ?_) | (refine list_sstore MsK rfl _ _ rfl (b := b2) (cs := msL ms0 sZ) (cs' := msL ms0 sZ) rfl rfl HS11.out.m4 rfl rfl rfl ?_))
                            intro W5 hm5 hk5
                            have HQ5 := dd_post HS11.out hk5.out (HDE.out)
                            clear hk5 HS11
                            go_wp2_with fail
                            exact bodyPost_ret (dd_res hm5.out rfl rfl) rfl HQ5
            · have hNni : ¬ (N : Int) = (n : Int) := by omega
              have hNnb : ((N : Int) != (n : Int)) = true := by simpa using hNni
              go_wp2_with (first | (go_at_call 25; refine HD4.out.mono ?_; rintro e w' ⟨rfl, hw'⟩; rw [hw']; clear hw' w') | (refine list_sload MsK rfl _ rfl (b := b4) (cs := msL ms0 sZ) rfl HS0.out.m7 rfl ?_) | (refine list_sstore MsK rfl _ _ rfl (b := b2) (cs := msL ms0 sZ) (cs' := msL ms0 sZ) rfl rfl HS0.out.m4 rfl rfl rfl ?_))
              intro W5 hm5 hk5
              have HQ5 := dd_post HS0.out hk5.out (ddec_fr (by rw [HFH.out, if_pos (by omega), if_pos hNn]) (by decide))
              clear hk5 HS0
              go_wp2_with fail
              exact bodyPost_ret (dd_res hm5.out rfl rfl) rfl HQ5
end Go.Proofs.Ytghlgkpfcpcopaa.Pv
