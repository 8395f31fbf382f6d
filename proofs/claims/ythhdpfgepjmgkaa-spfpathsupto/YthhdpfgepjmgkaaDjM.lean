/- The queue: next, newQueue. -/
import Derived.Test.YthhdpfgepjmgkaaDjL
namespace Go.Proofs.Ythhdpfgepjmgkaa.Dj
open Go.ChangeShapes Go.WideShapes Go.ChangeAt Go.RowKit Go.Joins Go.Deep Go.Proofs.Ythhdpfgepjmgkaa.Ge
set_option linter.unusedVariables false
set_option linter.unusedSimpArgs false

set_option maxRecDepth 100000 in
theorem ta_run (v : Value) (w : World) : Sem.run Try.prog (Instr.typeAssert (.iface 77 v) 20 77 false) w = .ok v w := by rfl
/-- how many turns -/
def tl (W : World) (qb : Nat) : Nat := match W.cell? ⟨qb, 0, none⟩ with
  | some (.slice _ n _) => n
  | _ => 0
theorem tl_of {N qb : Nat} {u v : Value} {xs : List Tn} {W : World} (h : Qt N qb u v xs W) : tl W qb = xs.length := by
  obtain ⟨a, c, rfl, -⟩ := h.own.form
  unfold tl
  rw [show W.cell? ⟨qb, 0, none⟩ = some (.slice a xs.length c) from h.box.cell 0]
def dropP (f : Int → Option Int) (n : Int) : Int → Option Int := fun m => if m = n then none else f m
def NxPost (w : World) (N qb db : Nat) (v : Value) (K : Nat) (f : Int → Option Int) (e : Ending) (w' : World) : Prop := ∃ v', Kf (fpQ qb db v) w w' ∧ v'.ownBlock = v.ownBlock ∧ ((e = .returned (.tuple #[.agg (tnL ⟨0, 0⟩).toArray, .bool false]) ∧ (∀ m, f m = none) ∧ Qs N qb db v' K f w') ∨ ∃ d n, e = .returned (.tuple #[.agg (tnL ⟨d, n⟩).toArray, .bool true]) ∧ f n = some d ∧ (∀ m dm, f m = some dm → d ≤ dm) ∧ Qs N qb db v' K (dropP f n) w')
structure NI (w : World) (N qb db : Nat) (v : Value) (K : Nat) (f : Int → Option Int) (b2 : Nat) (W : World) : Prop where
  at_ : ∃ v', Qs N qb db v' K f W ∧ v'.ownBlock = v.ownBlock
  kf : Kf (fpQ qb db v) w W
  box : SB TnK b2 (tnL ⟨0, 0⟩) W
theorem NI.nb {w W : World} {N qb db K b2 : Nat} {v : Value} {f : Int → Option Int} (h : NI w N qb db v K f b2 W) (hq : ∀ b, fpQ qb db v b → b < w.heap.size) (hb : w.heap.size ≤ b2) : ¬ fpQ qb db v b2 := fun c => by have := hq b2 c; omega
set_option maxRecDepth 100000 in
set_option maxHeartbeats 16000000 in
theorem next_any (N qb db : Nat) (v : Value) (K : Nat) (f : Int → Option Int) (w : World) (hK : K < 1000000000) (h : Qs N qb db v K f w) : Calls Try.prog 40 #[.pointer (some ⟨qb, 0, none⟩)] w (NxPost w N qb db v K f) := by
  have HQ : Hid (Qs N qb db v K f w) := h
  have HLT : Hid (∀ b, fpQ qb db v b → b < w.heap.size) := h.lt
  clear h
  go_enter Try.func40, Try.ntmps40
  go_wp2_with (refine list_newl TnK _ z_tn rfl rfl ?_)
  intro b2 w1 hb2 hs2 hbl2
  have HB2 : Hid (w.heap.size ≤ b2) := by rw [hb2.out]; exact Nat.le_refl _
  have HI0 : Hid (NI w N qb db v K f b2 w1) := ⟨⟨v, HQ.out.bel hbl2.out, rfl⟩, Kf.of_bel hbl2.out, hs2.out⟩
  clear hb2 hs2 hbl2
  go_wp2_with fail
  go_loopw [4, 5, 6] (fun _ _ _ wr => NI w N qb db v K f b2 wr) (fun _ _ _ wr => tl wr qb)
  case atStart => exact HI0.out
  case round =>
    obtain ⟨⟨v1, hq1, hv1⟩, hkf, hbx⟩ := hrel
    obtain ⟨wz, hwz⟩ : ∃ y, wr = y := ⟨_, rfl⟩
    rw [hwz] at hq1 hkf hbx ⊢
    clear hwz HI0
    have HQ1 : Hid (Qs N qb db v1 K f wz) := hq1
    have HV1 : Hid (v1.ownBlock = v.ownBlock) := hv1
    have HKF : Hid (Kf (fpQ qb db v) w wz) := hkf
    have HBX : Hid (SB TnK b2 (tnL ⟨0, 0⟩) wz) := hbx
    obtain ⟨⟨xs, es, ce, hqt, hm, hok, hhp, hlen, hget, hhas⟩, hne, hnd⟩ := hq1
    have HTL : Hid (tl wz qb = xs.length) := tl_of hqt
    obtain ⟨va, vc, rfl, -, -, -⟩ := hqt.own.form
    obtain ⟨n, hn⟩ : ∃ y, xs.length = y := ⟨_, rfl⟩
    rw [hn] at hqt hv1 hnd HQ1 HV1 HTL
    have HQT : Hid (Qt N qb (.map (some db)) (.slice va n vc) xs wz) := hqt
    have HM : Hid (MB MII db es ce wz) := hm
    have HOK : Hid (Mok es ce ∧ Hp xs xs.length) := ⟨hok, hhp⟩
    have HLE : Hid (xs.length ≤ K ∧ xs.length = n) := ⟨hlen, hn⟩
    have HGET : Hid (∀ n, mget es n = f n) := hget
    have HHAS : Hid (∀ n d, f n = some d → (⟨d, n⟩ : Tn) ∈ xs) := hhas
    have HNE : Hid (qb ≠ db ∧ ∀ g, (Value.slice va n vc).ownBlock = some g → g ≠ db) := ⟨hne, hnd⟩
    have c0 : wz.cell? ⟨qb, 0, none⟩ = some (.slice va n vc) := hqt.box.cell 0
    have hnK : n ≤ K := by omega
    clear hqt hm hok hhp hlen hget hhas hne hnd hv1 hkf hbx hn
    by_cases hn0 : n = 0
    case pos =>
      subst hn0
      have HE : Hid ((∀ m, f m = none) ∧ Qs N qb db (.slice va 0 vc) K f wz) := ⟨fun m => by
        cases hf : f m with
        | none => rfl
        | some d =>
          have := HHAS.out m d hf
          rw [List.length_eq_zero_iff.1 HLE.out.2] at this
          exact absurd this List.not_mem_nil, HQ1.out⟩
      go_wp2_with (refine list_sstore TnK rfl _ _ rfl (b := b2) (cs := tnL ⟨0, 0⟩) (cs' := tnL ⟨0, 0⟩) rfl rfl HBX.out rfl rfl rfl ?_)
      intro w3 hs3 hk3
      have HE3 : Hid (NxPost w N qb db v K f (.returned (.tuple #[.agg (tnL ⟨0, 0⟩).toArray, .bool false])) w3) := ⟨_, HKF.out.trans (Kf.of_ko hk3.out (F := fun b => b = b2) (fun _ => rfl)) (fun b hb e => by have := HB2.out; omega), HV1.out, .inl ⟨rfl, HE.out.1, HE.out.2.blk (fun b hb _ => hk3.out.block b (fun e => by
        subst e
        have h1 : fpQ qb db v b := by
          rcases hb with h | h | h
          · exact .inl h
          · exact .inr (.inl h)
          · exact .inr (.inr (by rw [← HV1.out]; exact h))
        have h2 := HLT.out b h1
        have h3 := HB2.out
        omega))⟩⟩
      have HS3 : Hid (SB TnK b2 (tnL ⟨0, 0⟩) w3) := hs3.out
      clear hs3 hk3 c0
      go_wp2_with fail
      exact ret_cell1 TnK rfl rfl HS3.out rfl rfl HE3.out
    have hn1 : (0 : Int) < (n : Int) := by omega
    have HPO : Hid (Calls Try.prog 52 #[.iface 97 (.pointer (some ⟨qb, 0, none⟩))] wz (HoPost wz N qb (.map (some db)) (.slice va n vc) xs)) := hpop_any N qb _ _ xs wz (fun e => by have := HLE.out; rw [e] at this; simp at this; omega) (by have := HLE.out; omega) HQT.out HOK.out.2
    go_wp2_with fail
    refine HPO.out.mono ?_
    rintro e w3 ⟨x, ys, v3, rfl, hq3, hpm3, hhp3, hmin, hk3, hv3⟩
    have hndb : ¬ fpT qb (.slice va n vc) db := fun c => by
      rcases c with h | h
      · exact HNE.out.1 h.symm
      · exact HNE.out.2 db h rfl
    have HQ3 : Hid (Qt N qb (.map (some db)) v3 ys w3) := hq3
    have HM3 : Hid (MB MII db es ce w3) := HM.out.blk (hk3.blk db HM.out.lt hndb)
    have HPM : Hid (xs.Perm (x :: ys)) := hpm3
    have HHP : Hid (Hp ys ys.length) := hhp3
    have HMIN : Hid (∀ y ∈ xs, x.d ≤ y.d) := hmin
    have HV3 : Hid (v3.ownBlock = v.ownBlock) := hv3.trans HV1.out
    have HN2 : Hid (¬ fpQ qb db v b2) := fun c => by have h1 := HLT.out b2 c; have h2 := HB2.out; omega
    have HK3 : Hid (Kf (fpQ qb db v) w w3) := HKF.out.trans hk3 (fun b _ e => e.elim .inl (fun e => .inr (.inr (by rw [← HV1.out]; exact e))))
    have HBX3 : Hid (SB TnK b2 (tnL ⟨0, 0⟩) w3) := HBX.out.blk (hk3.blk b2 HBX.out.lt (fun c => HN2.out (c.elim .inl (fun e => .inr (.inr (by rw [← HV1.out]; exact e))))))
    have HYL : Hid (ys.length < n) := by
      have h1 := hpm3.length_eq
      have h2 := HLE.out
      rw [List.length_cons] at h1
      show _ < _
      omega
    clear hq3 hpm3 hhp3 hmin hk3 hv3 hndb HPO HQT HM HKF HBX HQ1 c0
    have HNN : Hid (∀ g, v3.ownBlock = some g → g ≠ db) := fun g e => HNE.out.2 g (by rw [HV1.out, ← HV3.out]; exact e)
    go_wp2_with fail
    rw [ta_run, Result.andThen_ok]
    go_wp2_with (refine list_newl TnK _ z_tn rfl rfl ?_)
    intro b4 w4 hb4 hs4 hbl4
    have HS4 : Hid (SB TnK b4 (tnL ⟨0, 0⟩) w4) := hs4.out
    have HL4 : Hid (w3.heap.size = b4) := hb4.out
    have HB4 : Hid (Below w3.heap.size w3 w4) := hbl4.out
    clear hb4 hs4 hbl4
    go_wp2_with (refine list_sstore TnK rfl _ _ rfl (b := b4) (cs := tnL ⟨0, 0⟩) (cs' := tnL x) rfl rfl HS4.out rfl rfl rfl ?_)
    intro w5 hs5 hk5
    have HB5 : Hid (Below w3.heap.size w3 w5) := HB4.out.trans (hk5.out.below (by rw [HL4.out]; exact Nat.le_refl _))
    have HS5 : Hid (SB TnK b4 (tnL x) w5) := hs5.out
    clear hs5 hk5 HS4 HB4
    go_wp2_with fail
    obtain ⟨wd, hwd⟩ : ∃ y, w5.drew = y := ⟨_, rfl⟩
    have HBD : Hid (Below w3.heap.size w3 wd) := by rw [← hwd]; exact HB5.out.trans ((drew_bel w5).mono HB5.out.size)
    have HSD : Hid (SB TnK b4 (tnL x) wd) := by rw [← hwd]; exact HS5.out.blk ((drew_bel w5).block b4 HS5.out.lt)
    have HQD : Hid (Qt N qb (.map (some db)) v3 ys wd) := HQ3.out.bel HBD.out
    have HMD : Hid (MB MII db es ce wd) := HM3.out.blk (HBD.out.block db HM3.out.lt)
    have HBXD : Hid (SB TnK b2 (tnL ⟨0, 0⟩) wd) := HBX3.out.blk (HBD.out.block b2 HBX3.out.lt)
    have HKD : Hid (Kf (fpQ qb db v) w wd) := HK3.out.trans (Kf.of_bel HBD.out (F := fun _ => False)) (fun _ _ e => e.elim)
    have HWD : Hid (w5.drew = wd) := hwd
    have HL2 : Hid (b4 ≠ b2 ∧ b4 ≠ qb ∧ b4 ≠ db ∧ w.heap.size ≤ b4) := ⟨by have := HBX3.out.lt; have := HL4.out; omega, by have := HQ3.out.box.lt; have := HL4.out; omega, by have := HM3.out.lt; have := HL4.out; omega, by have := HK3.out.size; have := HL4.out; omega⟩
    clear hwd HB5 HS5 HQ3 HM3 HBX3 HK3 HBD HL4
    refine wp_region_held_drew (S := fun W => W = wd) (by kernel_rfl) HWD.out (fun hHeld => ?_)
    rw [HWD.out] at hHeld ⊢
    refine wpAnyH_take (i := 0) (v := .pointer (some ⟨qb, 0, none⟩)) rfl (by kernel_rfl) (by kernel_rfl) (by kernel_rfl) (fun _ _ _ h => h) (Or.inl ⟨by rfl, ?_⟩) (by assumption) ?_
    case refine_1 => intro W hSw; rw [hSw]; go_simp; try rfl
    try simp only [Act.put, List.getElem_toArray, List.getElem_cons_zero, List.getElem_cons_succ, List.setIfInBounds_toArray, List.set_cons_zero, List.set_cons_succ]
    refine wpAnyH_take (i := 1) (v := .pointer (some ⟨qb, 0, none⟩)) rfl (by kernel_rfl) (by kernel_rfl) (by kernel_rfl) (fun _ _ _ h => h) (Or.inl ⟨by rfl, ?_⟩) (by assumption) ?_
    case refine_1 => intro W hSw; rw [hSw]; go_simp; try rfl
    try simp only [Act.put, List.getElem_toArray, List.getElem_cons_zero, List.getElem_cons_succ, List.setIfInBounds_toArray, List.set_cons_zero, List.set_cons_succ]
    refine wpAnyH_take (i := 2) (v := .pointer (some ⟨qb, 1, none⟩)) rfl (by kernel_rfl) (by kernel_rfl) (by kernel_rfl) (fun _ _ _ h => h) (Or.inl ⟨by rfl, ?_⟩) (by assumption) ?_
    case refine_1 => intro W hSw; rw [hSw]; go_simp; try rfl
    try simp only [Act.put, List.getElem_toArray, List.getElem_cons_zero, List.getElem_cons_succ, List.setIfInBounds_toArray, List.set_cons_zero, List.set_cons_succ]
    refine wpAnyH_take (i := 3) (v := .map (some db)) rfl (by kernel_rfl) (by kernel_rfl) (by kernel_rfl) (fun _ _ _ h => h) (Or.inl ⟨by rfl, ?_⟩) (by assumption) ?_
    case refine_1 => intro W hSw; rw [hSw]; have k1 : wd.cell? ⟨qb, 1, none⟩ = some (.map (some db)) := HQD.out.box.cell 1; go_simp; try rfl
    try simp only [Act.put, List.getElem_toArray, List.getElem_cons_zero, List.getElem_cons_succ, List.setIfInBounds_toArray, List.set_cons_zero, List.set_cons_succ]
    refine wpAnyH_take (i := 4) (v := .pointer (some ⟨b4, 1, none⟩)) rfl (by kernel_rfl) (by kernel_rfl) (by kernel_rfl) (fun _ _ _ h => h) (Or.inl ⟨by rfl, ?_⟩) (by assumption) ?_
    case refine_1 => intro W hSw; rw [hSw]; go_simp; try rfl
    try simp only [Act.put, List.getElem_toArray, List.getElem_cons_zero, List.getElem_cons_succ, List.setIfInBounds_toArray, List.set_cons_zero, List.set_cons_succ]
    refine wpAnyH_take (i := 5) (v := .int .i64 x.n) rfl (by kernel_rfl) (by kernel_rfl) (by kernel_rfl) (fun _ _ _ h => h) (Or.inl ⟨by rfl, ?_⟩) (by assumption) ?_
    case refine_1 => intro W hSw; rw [hSw]; have k1 : wd.cell? ⟨b4, 1, none⟩ = some (.int .i64 x.n) := HSD.out.cell 1; go_simp; try rfl
    try simp only [Act.put, List.getElem_toArray, List.getElem_cons_zero, List.getElem_cons_succ, List.setIfInBounds_toArray, List.set_cons_zero, List.set_cons_succ]
    refine wpAnyH_take (i := 6) (v := .tuple #[.int .i64 ((f x.n).getD 0), .bool (f x.n).isSome]) rfl (by kernel_rfl) (by kernel_rfl) (by kernel_rfl) (fun _ _ _ h => h) (Or.inl ⟨by rfl, (fun W hSw => by rw [hSw, ← HGET.out, ← got_ii]; exact look2_run MII (.tmp 23) (.tmp 25) rfl (k := x.n) rfl rfl HMD.out)⟩) (by assumption) ?_
    try simp only [Act.put, List.getElem_toArray, List.getElem_cons_zero, List.getElem_cons_succ, List.setIfInBounds_toArray, List.set_cons_zero, List.set_cons_succ]
    refine wpAnyH_take (i := 7) (v := .tuple #[.int .i64 ((f x.n).getD 0), .bool (f x.n).isSome]) rfl (by kernel_rfl) (by kernel_rfl) (by kernel_rfl) (fun _ _ _ h => h) (Or.inl ⟨by rfl, ?_⟩) (by assumption) ?_
    case refine_1 => intro W hSw; rw [hSw]; go_simp; try rfl
    try simp only [Act.put, List.getElem_toArray, List.getElem_cons_zero, List.getElem_cons_succ, List.setIfInBounds_toArray, List.set_cons_zero, List.set_cons_succ]
    refine wpAnyH_take (i := 8) (v := .int .i64 ((f x.n).getD 0)) rfl (by kernel_rfl) (by kernel_rfl) (by kernel_rfl) (fun _ _ _ h => h) (Or.inl ⟨by rfl, ?_⟩) (by assumption) ?_
    case refine_1 => intro W hSw; rw [hSw]; go_simp; try rfl
    try simp only [Act.put, List.getElem_toArray, List.getElem_cons_zero, List.getElem_cons_succ, List.setIfInBounds_toArray, List.set_cons_zero, List.set_cons_succ]
    refine wpAnyH_take (i := 9) (v := .bool (f x.n).isSome) rfl (by kernel_rfl) (by kernel_rfl) (by kernel_rfl) (fun _ _ _ h => h) (Or.inl ⟨by rfl, ?_⟩) (by assumption) ?_
    case refine_1 => intro W hSw; rw [hSw]; go_simp; try rfl
    try simp only [Act.put, List.getElem_toArray, List.getElem_cons_zero, List.getElem_cons_succ, List.setIfInBounds_toArray, List.set_cons_zero, List.set_cons_succ]
    refine wpAnyH_take (i := 10) (v := .int .i64 ((f x.n).getD 0)) rfl (by kernel_rfl) (by kernel_rfl) (by kernel_rfl) (fun _ _ _ h => h) (Or.inl ⟨by rfl, ?_⟩) (by assumption) ?_
    case refine_1 => intro W hSw; rw [hSw]; go_simp; try rfl
    try simp only [Act.put, List.getElem_toArray, List.getElem_cons_zero, List.getElem_cons_succ, List.setIfInBounds_toArray, List.set_cons_zero, List.set_cons_succ]
    refine wpAnyH_take (i := 11) (v := .bool (f x.n).isSome) rfl (by kernel_rfl) (by kernel_rfl) (by kernel_rfl) (fun _ _ _ h => h) (Or.inl ⟨by rfl, ?_⟩) (by assumption) ?_
    case refine_1 => intro W hSw; rw [hSw]; go_simp; try rfl
    try simp only [Act.put, List.getElem_toArray, List.getElem_cons_zero, List.getElem_cons_succ, List.setIfInBounds_toArray, List.set_cons_zero, List.set_cons_succ]
    refine wpAnyH_done (by kernel_rfl) ?_ _
    clear hHeld HWD
    have d0 : wd.cell? ⟨b4, 0, none⟩ = some (.int .i64 x.d) := HSD.out.cell 0
    have HGX : Hid (mget es x.n = f x.n) := HGET.out x.n
    have HNO : Hid (f x.n ≠ some x.d → NI w N qb db v K f b2 wd ∧ tl wd qb < tl wz qb) := fun hno => ⟨⟨⟨v3, ⟨⟨ys, es, ce, HQD.out, HMD.out, HOK.out.1, HHP.out, by have := HYL.out; omega, HGET.out, fun m d hm => by
      rcases List.mem_cons.1 (HPM.out.mem_iff.1 (HHAS.out m d hm)) with e | e
      · exfalso
        rw [← e] at hno
        exact hno hm
      · exact e⟩, HNE.out.1, HNN.out⟩, HV3.out⟩, HKD.out, HBXD.out⟩, by rw [HTL.out, tl_of HQD.out]; exact HYL.out⟩
    cases hf : f x.n
    case none =>
      have hI := HNO.out (by rw [hf]; exact fun c => by cases c)
      have HI : Hid (NI w N qb db v K f b2 wd ∧ tl wd qb < tl wz qb) := hI
      clear hI HNO
      go_wp2_with fail
      exact HI.out
    case some d1 =>
      by_cases hd : d1 = x.d
      case neg =>
        have hI := HNO.out (by rw [hf]; exact fun c => hd (Option.some.inj c))
        have HI : Hid (NI w N qb db v K f b2 wd ∧ tl wd qb < tl wz qb) := hI
        have hdb : (d1 == x.d) = false := beq_false_of_ne hd
        clear hI HNO hd
        go_wp2_with fail
        exact HI.out
      subst hd
      have HFX : Hid (f x.n = some x.d) := hf
      clear HNO hf
      go_wp2_with fail
      obtain ⟨we, hwe⟩ : ∃ y, wd.drew = y := ⟨_, rfl⟩
      have HQE : Hid (Qt N qb (.map (some db)) v3 ys we) := by rw [← hwe]; exact HQD.out.bel (drew_bel wd)
      have HME : Hid (MB MII db es ce we) := by rw [← hwe]; exact HMD.out.blk ((drew_bel wd).block db HMD.out.lt)
      have HBXE : Hid (SB TnK b2 (tnL ⟨0, 0⟩) we) := by rw [← hwe]; exact HBXD.out.blk ((drew_bel wd).block b2 HBXD.out.lt)
      have HSE : Hid (SB TnK b4 (tnL x) we) := by rw [← hwe]; exact HSD.out.blk ((drew_bel wd).block b4 HSD.out.lt)
      have HKE : Hid (Kf (fpQ qb db v) w we) := by rw [← hwe]; exact HKD.out.trans (Kf.of_bel (drew_bel wd) (F := fun _ => False)) (fun _ _ e => e.elim)
      have HWE : Hid (wd.drew = we) := hwe
      have HS1 : Hid (SB QuK qb [v3, .map (some db)] we) := HQE.out.box
      clear hwe HQD HMD HBXD HSD HKD d0
      refine wp_region_held_drew (S := fun W => SB QuK qb [v3, .map (some db)] W ∧ SB TnK b4 (tnL x) W) (by kernel_rfl) (by rw [HWE.out]; exact ⟨HS1.out, HSE.out⟩) (fun hHeld => ?_)
      rw [HWE.out] at hHeld ⊢
      refine wpAnyH_take (i := 0) (v := .pointer (some ⟨qb, 0, none⟩)) rfl (by kernel_rfl) (by kernel_rfl) (by kernel_rfl) (fun _ _ _ h => h) (Or.inl ⟨by rfl, ?_⟩) (by assumption) ?_
      case refine_1 => intro W hSw; go_simp; try rfl
      try simp only [Act.put, List.getElem_toArray, List.getElem_cons_zero, List.getElem_cons_succ, List.setIfInBounds_toArray, List.set_cons_zero, List.set_cons_succ]
      refine wpAnyH_take (i := 1) (v := .pointer (some ⟨qb, 0, none⟩)) rfl (by kernel_rfl) (by kernel_rfl) (by kernel_rfl) (fun _ _ _ h => h) (Or.inl ⟨by rfl, ?_⟩) (by assumption) ?_
      case refine_1 => intro W hSw; go_simp; try rfl
      try simp only [Act.put, List.getElem_toArray, List.getElem_cons_zero, List.getElem_cons_succ, List.setIfInBounds_toArray, List.set_cons_zero, List.set_cons_succ]
      refine wpAnyH_take (i := 2) (v := .pointer (some ⟨qb, 1, none⟩)) rfl (by kernel_rfl) (by kernel_rfl) (by kernel_rfl) (fun _ _ _ h => h) (Or.inl ⟨by rfl, ?_⟩) (by assumption) ?_
      case refine_1 => intro W hSw; go_simp; try rfl
      try simp only [Act.put, List.getElem_toArray, List.getElem_cons_zero, List.getElem_cons_succ, List.setIfInBounds_toArray, List.set_cons_zero, List.set_cons_succ]
      refine wpAnyH_take (i := 3) (v := .map (some db)) rfl (by kernel_rfl) (by kernel_rfl) (by kernel_rfl) (fun _ _ _ h => h) (Or.inl ⟨by rfl, ?_⟩) (by assumption) ?_
      case refine_1 => intro W hSw; have k1 : W.cell? ⟨qb, 1, none⟩ = some (.map (some db)) := hSw.1.cell 1; go_simp; try rfl
      try simp only [Act.put, List.getElem_toArray, List.getElem_cons_zero, List.getElem_cons_succ, List.setIfInBounds_toArray, List.set_cons_zero, List.set_cons_succ]
      refine wpAnyH_take (i := 4) (v := .pointer (some ⟨b4, 1, none⟩)) rfl (by kernel_rfl) (by kernel_rfl) (by kernel_rfl) (fun _ _ _ h => h) (Or.inl ⟨by rfl, ?_⟩) (by assumption) ?_
      case refine_1 => intro W hSw; go_simp; try rfl
      try simp only [Act.put, List.getElem_toArray, List.getElem_cons_zero, List.getElem_cons_succ, List.setIfInBounds_toArray, List.set_cons_zero, List.set_cons_succ]
      refine wpAnyH_take (i := 5) (v := .int .i64 x.n) rfl (by kernel_rfl) (by kernel_rfl) (by kernel_rfl) (fun _ _ _ h => h) (Or.inl ⟨by rfl, ?_⟩) (by assumption) ?_
      case refine_1 => intro W hSw; have k1 : W.cell? ⟨b4, 1, none⟩ = some (.int .i64 x.n) := hSw.2.cell 1; go_simp; try rfl
      try simp only [Act.put, List.getElem_toArray, List.getElem_cons_zero, List.getElem_cons_succ, List.setIfInBounds_toArray, List.set_cons_zero, List.set_cons_succ]
      refine wpAnyH_ready (rs := [6]) (by kernel_rfl) (by simp) ?_
      refine AllReadyH.cons rfl (fun K hK => ?_) AllReadyH.nil
      refine del_step MII (.tmp 39) (.tmp 41) rfl (k := x.n) rfl rfl HME.out rfl (fun w6 hm6 hk6 => ?_)
      have hqb : qb ≠ db := HNE.out.1
      refine hK.out _ _ ⟨hHeld.1.blk (hk6.out.block qb hqb), hHeld.2.blk (hk6.out.block b4 HL2.out.2.2.1)⟩ (fun hHeld => ?_)
      have HS6 : Hid (SB TnK b4 (tnL x) w6) := hHeld.2
      have HQ6 : Hid (Qt N qb (.map (some db)) v3 ys w6) := HQE.out.blk (fun b hb _ => hk6.out.block b (fun e => by
        subst e
        rcases hb with h | h
        · exact hqb h.symm
        · exact HNN.out b h rfl))
      have HB26 : Hid (SB TnK b2 (tnL ⟨0, 0⟩) w6) := HBXE.out.blk (hk6.out.block b2 (fun e => HN2.out (.inr (.inl e))))
      have HM6 : Hid (MB MII db (mdel es x.n) ce w6) := hm6.out
      have HK6 : Hid (Kf (fpQ qb db v) w w6) := HKE.out.trans (Kf.of_ko hk6.out (F := fun b => b = db) (fun _ => rfl)) (fun b _ e => .inr (.inl e))
      clear hK K hm6 hk6 hqb
      refine wpAnyH_done (by kernel_rfl) ?_ _
      clear hHeld HQE HME HBXE HSE HKE HWE HS1
      go_wp2_with (first | (refine list_sload TnK rfl _ rfl (b := b4) (cs := tnL x) rfl HS6.out rfl ?_) | (refine list_sstore TnK rfl _ _ rfl (b := b2) (cs := tnL ⟨0, 0⟩) (cs' := tnL x) rfl rfl HB26.out rfl rfl rfl ?_))
      intro w7 hs7 hk7
      have HE7 : Hid (NxPost w N qb db v K f (.returned (.tuple #[.agg (tnL x).toArray, .bool true])) w7) := by
        refine ⟨v3, HK6.out.trans (Kf.of_ko hk7.out (F := fun b => b = b2) (fun _ => rfl)) (fun b hb e => by have := HB2.out; omega), HV3.out, .inr ⟨x.d, x.n, rfl, HFX.out, fun m dm hm => HMIN.out _ (HHAS.out m dm hm), ⟨⟨ys, mdel es x.n, ce, HQ6.out.blk (fun b hb _ => hk7.out.block b (fun e => ?_)), HM6.out.blk (hk7.out.block db (fun e => HN2.out (.inr (.inl e.symm)))), mdel_ok HOK.out.1 _, HHP.out, by have := HYL.out; omega, fun m => ?_, fun m d hm => ?_⟩, HNE.out.1, HNN.out⟩⟩⟩
        · subst e
          refine HN2.out ?_
          rcases hb with h | h
          · exact .inl h
          · exact .inr (.inr (by rw [← HV3.out]; exact h))
        · rw [mdel_get HOK.out.1]
          unfold dropP
          split
          · rfl
          · exact HGET.out m
        · unfold dropP at hm
          by_cases e : m = x.n
          · rw [if_pos e] at hm
            cases hm
          · rw [if_neg e] at hm
            rcases List.mem_cons.1 (HPM.out.mem_iff.1 (HHAS.out m d hm)) with e2 | e2
            · exfalso
              exact e (by rw [← e2])
            · exact e2
      have HS7 : Hid (SB TnK b2 (tnL x) w7) := hs7.out
      clear hs7 hk7
      go_wp2_with fail
      exact ret_cell1 TnK rfl rfl HS7.out rfl rfl HE7.out
def NqPost (w : World) (N : Nat) (e : Ending) (w' : World) : Prop := ∃ qb db, e = .returned (.pointer (some ⟨qb, 0, none⟩)) ∧ Qs N qb db (.slice none 0 0) 0 (fun _ => none) w' ∧ Below w.heap.size w w' ∧ w.heap.size ≤ qb ∧ w.heap.size ≤ db
set_option maxRecDepth 100000 in
set_option maxHeartbeats 8000000 in
theorem newq_any (N : Nat) (w : World) : Calls Try.prog 36 #[] w (NqPost w N) := by
  go_enter Try.func36, Try.ntmps36
  go_wp2_with (refine list_mnew MII rfl rfl ?_)
  intro b w1 hb hm hbl
  have HM : Hid (MB MII b [] 0 w1) := hm.out
  have HB : Hid (Below w.heap.size w w1) := hbl.out
  have HL : Hid (w.heap.size = b) := hb.out
  clear hb hm hbl
  go_wp2_with (refine list_boxl QuK rfl _ rfl (cs := [.slice none 0 0, .map (some b)]) rfl ?_)
  intro qb w2 hb2 hs2 hbl2
  have HE : Hid (NqPost w N (.returned (.pointer (some ⟨qb, 0, none⟩))) w2) := by
    have h1 := HM.out.lt
    have h2 := hb2.out
    have h3 := HL.out
    have h4 := HB.out.size
    exact ⟨qb, b, rfl, ⟨⟨[], [], 0, ⟨hs2.out, OwnL.nil _ _ _, fun g e => by cases e⟩, HM.out.blk (hbl2.out.block b h1), ⟨by simp, by simp, fun x hx => by cases hx⟩, fun k k0 kn => absurd kn (by simp), Nat.le_refl _, fun n => rfl, fun n d h => by cases h⟩, by omega, fun g e => by cases e⟩, HB.out.trans (hbl2.out.mono h4), by omega, by omega⟩
  clear hb2 hs2 hbl2
  go_wp2_with fail
  go_ret
  exact HE.out
end Go.Proofs.Ythhdpfgepjmgkaa.Dj
