/- SpfLoopless: the law. -/
import Derived.Test.YthhdpfgepjmgkaaDkP
namespace Go.Proofs.Ythhdpfgepjmgkaa.Dj
open Go.ChangeShapes Go.WideShapes Go.ChangeAt Go.RowKit Go.Joins Go.Deep Go.Proofs.Ythhdpfgepjmgkaa.Ge
set_option linter.unusedVariables false
set_option linter.unusedSimpArgs false

theorem Tl.bd {N : Nat} {es : List Ed} {fr to : Int} {q : Rc} {W : World} (h : Tl N es fr to q true W) : 0 ≤ q.d ∧ q.d ≤ far := by
  obtain ⟨vs, f, h1, h2, -⟩ := h
  exact h1.bd to q.d q.ls (h2 rfl).1
theorem Tl.self {N : Nat} {es : List Ed} {fr : Int} {q : Rc} {ok : Bool} {W : World} (h : Tl N es fr fr q ok W) : ok = true ∧ q.d = 0 ∧ q.ls = [] := by
  obtain ⟨vs, f, h1, h2, h3⟩ := h
  have hs := h1.self
  cases ok
  · rw [h3 rfl] at hs; cases hs
  · rw [(h2 rfl).1] at hs
    have h4 := Option.some.inj hs
    exact ⟨rfl, congrArg Prod.fst h4, congrArg Prod.snd h4⟩
theorem Tl.link {N : Nat} {es : List Ed} {fr to : Int} {q : Rc} {W : World} (h : Tl N es fr to q true W) (hne : to ≠ fr) : q.ls ≠ [] := by
  obtain ⟨vs, f, h1, h2, -⟩ := h
  exact h1.link (h2 rfl).1 hne
theorem Tl.lst {N : Nat} {es : List Ed} {fr to : Int} {q : Rc} {W : World} (h : Tl N es fr to q true W) : Lst EI W q.a q.ls ∧ ∀ b o s, q.a = some ⟨b, o, s⟩ → N ≤ b ∧ b < W.heap.size := by
  obtain ⟨vs, f, h1, h2, -⟩ := h
  exact (h2 rfl).2
def Nx (es : List Ed) (q : Rc) (to : Int) (e : Ed) : Prop := 1 ≤ e.c ∧ e.c ≤ 65535 ∧ ∀ N' q' ok' W', Tl N' es e.t to q' ok' W' → ok' = true ∧ q'.d = q.d - e.c
theorem Tl.step {N : Nat} {es : List Ed} {fr to : Int} {q : Rc} {W : World} (h : Tl N es fr to q true W) (hne : to ≠ fr) {x : Int} (hx : x ∈ q.ls) : (∃ i e, Ov es fr x i e) ∧ ∀ i e, Ov es fr x i e → Nx es q to e := by
  obtain ⟨vs, f, h1, h2, -⟩ := h
  have h3 := h1.step (h2 rfl).1 hne hx
  refine ⟨h3.1, fun i e ho => ⟨(h3.2 i e ho).1, (h3.2 i e ho).2.1, fun N' q' ok' W' ht => ?_⟩⟩
  obtain ⟨vs', f', k1, k2, k3⟩ := ht
  obtain ⟨ls', h5⟩ := (h3.2 i e ho).2.2 vs' f' k1
  cases ok'
  · rw [k3 rfl] at h5; cases h5
  · rw [(k2 rfl).1] at h5
    exact ⟨rfl, congrArg Prod.fst (Option.some.inj h5)⟩
set_option maxRecDepth 100000 in
set_option maxHeartbeats 64000000 in
theorem loopless_any (la : Option Addr) (n lc : Nat) (es : List Ed) (fr to : Int) (pa : Option Addr) (pn pc : Nat) (ps : List Int) (w : World) (hn : es.length = n) (hb : n < 99999999) (h : Lst EE w la es) (hpn : ps.length = pn) (hpb : pn < 1000000000) (hp : Lst EI w pa ps) : Calls Try.prog 5 #[.slice la n lc, .int .i64 fr, .int .i64 to, .slice pa pn pc] w (BlPost w true) := by
  have HX : Hid (Lst EE w la es ∧ es.length = n ∧ n < 99999999) := ⟨h, hn, hb⟩
  have HP : Hid (Lst EI w pa ps ∧ ps.length = pn ∧ pn < 1000000000) := ⟨hp, hpn, hpb⟩
  have hp0 : (pn : Int) < 1000000000 := by omega
  clear h hn hb hpn hpb hp
  go_enter Try.func5, Try.ntmps5
  go_wp2_with fail
  refine (paths_any la n lc es fr w HX.out.2.1 HX.out.2.2 (HX.out.1.bel (Below.refl w.heap.size w))).mono ?_
  rintro e0 w1 ⟨vs1, f1, hnet, a1, m1, c1, rs1, rfl, hm, hl, -, hpw, hkn, hws, -, hb1⟩
  have HM1 : Hid (m1 < 1000000000) := by have h1 := pa_len hnet hpw hkn; rw [hm] at h1; have h3 := HX.out; show _ < _; omega
  have HL1 : Hid (Lst ER w1 a1 rs1 ∧ rs1.length = m1) := ⟨hl, hm⟩
  have HK1 : Hid (Net es vs1 fr f1 ∧ (∀ v d ls, f1 v = some (d, ls) ↔ ∃ q ∈ rs1, q.n = v ∧ q.d = d ∧ q.ls = ls) ∧ Ws w rs1 w1 ∧ Below w.heap.size w w1) := ⟨hnet, hkn, hws, hb1⟩
  have hm01 : (m1 : Int) < 1000000000 := by have := HM1.out; omega
  clear hnet hm hl hpw hkn hws hb1
  go_wp2_with fail
  refine (at_any a1 m1 c1 rs1 to w1 HL1.out.2 HM1.out HL1.out.1).mono ?_
  rintro e0 w2 ⟨r, ok, rfl, hb2, hq1, hq2⟩
  have HT1 : Hid (Tl w.heap.size es fr to r ok w2) := tell_of HK1.out.1 HK1.out.2.1 HK1.out.2.2.1 hb2 hq1 hq2
  have HW1 : Hid (Below w.heap.size w w2) := HK1.out.2.2.2.trans (hb2.mono HK1.out.2.2.2.size)
  have HB1 : Hid (Below w.heap.size w w2) := (Below.refl w.heap.size w).trans (HW1.out.mono (Below.refl w.heap.size w).size)
  clear hb2 hq1 hq2 hm01
  go_wp2_with (refine list_newl RcK _ z_rc rfl rfl ?_)
  intro b11 w3 hb hs hbl
  have HZb11 : Hid (w2.heap.size ≤ b11) := by rw [hb.out]; exact Nat.le_refl _
  have HYb11 : Hid (Below w2.heap.size w2 w3) := hbl.out
  have HS0 : Hid (SB RcK b11 (rcL zr) w3) := hs.out
  clear hb hs hbl
  go_wp2_with (refine list_sstore RcK rfl _ _ rfl (b := b11) (cs := rcL zr) (cs' := rcL r) rfl rfl HS0.out rfl rfl rfl ?_)
  intro w4 hs hk
  have HNb11 : Hid (Below w2.heap.size w2 w4) := HYb11.out.trans (hk.out.below HZb11.out)
  have HSb11 : Hid (SB RcK b11 (rcL r) w4) := hs.out
  clear hs hk HS0 HYb11
  have HB4 : Hid (Below w.heap.size w w4) := HB1.out.trans (HNb11.out.mono HB1.out.size)
  go_wp2_with fail
  refine (paths_any la n lc es fr w4 HX.out.2.1 HX.out.2.2 (HX.out.1.bel (HB4.out))).mono ?_
  rintro e0 w5 ⟨vs2, f2, hnet, a2, m2, c2, rs2, rfl, hm, hl, -, hpw, hkn, hws, -, hb1⟩
  have HM2 : Hid (m2 < 1000000000) := by have h1 := pa_len hnet hpw hkn; rw [hm] at h1; have h3 := HX.out; show _ < _; omega
  have HL2 : Hid (Lst ER w5 a2 rs2 ∧ rs2.length = m2) := ⟨hl, hm⟩
  have HK2 : Hid (Net es vs2 fr f2 ∧ (∀ v d ls, f2 v = some (d, ls) ↔ ∃ q ∈ rs2, q.n = v ∧ q.d = d ∧ q.ls = ls) ∧ Ws w4 rs2 w5 ∧ Below w4.heap.size w4 w5) := ⟨hnet, hkn, hws, hb1⟩
  have hm02 : (m2 : Int) < 1000000000 := by have := HM2.out; omega
  clear hnet hm hl hpw hkn hws hb1
  go_wp2_with fail
  refine (at_any a2 m2 c2 rs2 fr w5 HL2.out.2 HM2.out HL2.out.1).mono ?_
  rintro e0 w6 ⟨q2, ok2, rfl, hb2, hq1, hq2⟩
  have HT2 : Hid (Tl w4.heap.size es fr fr q2 ok2 w6) := tell_of HK2.out.1 HK2.out.2.1 HK2.out.2.2.1 hb2 hq1 hq2
  have HW2 : Hid (Below w4.heap.size w4 w6) := HK2.out.2.2.2.trans (hb2.mono HK2.out.2.2.2.size)
  have HB2 : Hid (Below w.heap.size w w6) := (HB4.out).trans (HW2.out.mono (HB4.out).size)
  clear hb2 hq1 hq2 hm02
  obtain ⟨hok2, hd2, hl2⟩ := HT2.out.self
  subst hok2
  have HQ2 : Hid (q2.d = 0 ∧ q2.ls = []) := ⟨hd2, hl2⟩
  clear hd2 hl2
  go_wp2_with (refine list_newl RcK _ z_rc rfl rfl ?_)
  intro b13 w7 hb hs hbl
  have HZb13 : Hid (w6.heap.size ≤ b13) := by rw [hb.out]; exact Nat.le_refl _
  have HYb13 : Hid (Below w6.heap.size w6 w7) := hbl.out
  have HS0 : Hid (SB RcK b13 (rcL zr) w7) := hs.out
  clear hb hs hbl
  go_wp2_with (refine list_sstore RcK rfl _ _ rfl (b := b13) (cs := rcL zr) (cs' := rcL q2) rfl rfl HS0.out rfl rfl rfl ?_)
  intro w8 hs hk
  have HNb13 : Hid (Below w6.heap.size w6 w8) := HYb13.out.trans (hk.out.below HZb13.out)
  have HSb13 : Hid (SB RcK b13 (rcL q2) w8) := hs.out
  clear hs hk HS0 HYb13
  have HN48 : Hid (Below w4.heap.size w4 w8) := HW2.out.trans (HNb13.out.mono HW2.out.size)
  have HB8 : Hid (Below w.heap.size w w8) := HB4.out.trans (HN48.out.mono HB4.out.size)
  have c131 : w8.cell? ⟨b13, 1, none⟩ = some (.int .i64 0) := by have := HSb13.out.cell 1; rw [← HQ2.out.1]; exact this
  have c132 : w8.cell? ⟨b13, 2, none⟩ = some (.slice q2.a 0 q2.c) := by have := HSb13.out.cell 2; rw [show (0 : Nat) = q2.ls.length by rw [HQ2.out.2]; rfl]; exact this
  cases ok
  case false =>
    have HE : Hid (BlPost w true (.returned (.bool true)) w8) := ⟨rfl, HB8.out⟩
    go_wp2_with fail
    go_ret
    exact HE.out
  have HT8 : Hid (Tl w.heap.size es fr to r true w8) := (HT1.out.bel HNb11.out).bel HN48.out
  have HR8 : Hid (SB RcK b11 (rcL r) w8) := HSb11.out.blk (HN48.out.block b11 HSb11.out.lt)
  have HAP : Hid (∀ b o s, r.a = some ⟨b, o, s⟩ → b ≠ b11) := fun b o s e c => by have h1 := (HT1.out.lst.2 b o s e).2; have h2 := HZb11.out; omega
  have c111 : w8.cell? ⟨b11, 1, none⟩ = some (.int .i64 r.d) := HR8.out.cell 1
  go_wp2_with fail
  clear c131 c132 c111
  go_loopw [9, 10, 15, 16, 17, 18, 19] (fun xv sv lv _ _ _ _ wr => ∃ (x : Int) (st : Nat) (q : Rc) (N : Nat), xv = .int .i64 x ∧ sv = .int .i64 (st : Int) ∧ lv = .int .i64 q.d ∧ Below w.heap.size w wr ∧ SB RcK b11 (rcL q) wr ∧ Tl N es x to q true wr ∧ (∀ b o s, q.a = some ⟨b, o, s⟩ → b ≠ b11) ∧ (st : Int) + q.d ≤ far) (fun _ _ lv _ _ _ _ _ => (intOf lv).toNat)
  case atStart => exact ⟨fr, 0, r, w.heap.size, rfl, rfl, rfl, HB8.out, HR8.out, HT8.out, HAP.out, by have := HT8.out.bd.2; simpa using this⟩
  case round =>
    obtain ⟨x, st, q, N, rfl, rfl, rfl, hbl, hsb, htl, hap, hsd⟩ := hrel
    obtain ⟨wz, hwz⟩ : ∃ y, wr = y := ⟨_, rfl⟩
    rw [hwz] at hbl hsb htl ⊢
    have HBz : Hid (Below w.heap.size w wz) := hbl
    have HI : Hid (SB RcK b11 (rcL q) wz ∧ Tl N es x to q true wz ∧ (∀ b o s, q.a = some ⟨b, o, s⟩ → b ≠ b11) ∧ (st : Int) + q.d ≤ far) := ⟨hsb, htl, hap, hsd⟩
    have HQB : Hid (0 ≤ q.d ∧ q.d ≤ far) := htl.bd
    clear hbl hsb htl hap hsd hwz HT8 HR8 HAP HT1 HT2 HSb11 HSb13
    by_cases hxt : x = to
    case pos =>
      subst hxt
      have HD0 : Hid (q.d = 0) := HI.out.2.1.self.2.1
      have hd0 : (q.d == 0) = true := by rw [HD0.out]; rfl
      have hxx : (x != x) = false := by simp
      have HE : Hid (BlPost w true (.returned (.bool true)) wz) := ⟨rfl, HBz.out⟩
      go_wp2_with fail
      go_ret
      exact HE.out
    have HNE : Hid (to ≠ x) := fun c => hxt c.symm
    have hxx : (x != to) = true := by simp [hxt]
    clear hxt
    obtain ⟨m, hm⟩ : ∃ y, q.ls.length = y := ⟨_, rfl⟩
    have HM : Hid (q.ls.length = m) := hm
    have hml : (m : Int) ≤ 9223372036854775807 := by have := HI.out.2.1.lst.1.small; omega
    have hmp : 0 < m := by rw [← hm]; exact List.length_pos_iff.2 (HI.out.2.1.link HNE.out)
    have hm0 : ((m : Int) == 0) = false := beq_false_of_ne (by omega)
    have hst0 : (st : Int) ≤ 4611686018427387903 := by have h1 := HI.out.2.2.2; have h2 := HQB.out.1; have h3 : far = 4611686018427387903 := rfl; omega
    have hst2 : (0 : Int) ≤ (st : Int) := by omega
    have c112 : wz.cell? ⟨b11, 2, none⟩ = some (.slice q.a m q.c) := by rw [← HM.out]; exact HI.out.1.cell 2
    clear hm
    by_cases hlt : st < pn
    case pos =>
      have hss : (st : Int) < (pn : Int) := by omega
      obtain ⟨pb, po, rfl, -, hce⟩ := (HP.out.1.bel HBz.out).cells st (by have := HP.out.2.1; omega)
      obtain ⟨v, hv⟩ : ∃ z, ps[st]'(by have := HP.out.2.1; omega) = z := ⟨_, rfl⟩
      rw [hv] at hce
      have HC0 : Hid (wz.cell? ⟨pb, po + st, none⟩ = some (.int .i64 v)) := by have := hce 0 (by decide); show _ = _; simpa [EI] using this
      clear hce hv
      obtain ⟨u, hu⟩ : ∃ z, IntKind.u64.wrap v = z := ⟨_, rfl⟩
      have hu0 : 0 ≤ u := by rw [← hu]; simp [IntKind.wrap, IntKind.bits, IntKind.signed]; omega
      obtain ⟨k, hk⟩ : ∃ k : Nat, u.tmod (m : Int) = (k : Int) := ⟨(u.tmod (m : Int)).toNat, by rw [Int.toNat_of_nonneg (Int.tmod_nonneg _ hu0)]⟩
      have HKM : Hid (k < m) := by have h1 := Int.tmod_lt_of_pos u (show (0 : Int) < (m : Int) by omega); show _ < _; omega
      have hmu : IntKind.u64.wrap (m : Int) = (m : Int) := by simp [IntKind.wrap, IntKind.bits, IntKind.signed]; omega
      have hki : IntKind.i64.wrap (k : Int) = (k : Int) := wr64 _ (by have := HKM.out; omega) (by have := HKM.out; omega)
      go_upto_region 14 with fail
      obtain ⟨wd, hwd⟩ : ∃ y, wz.drew = y := ⟨_, rfl⟩
      have HWD : Hid (wz.drew = wd) := hwd
      have HBD : Hid (Below wz.heap.size wz wd) := by rw [← hwd]; exact drew_bel wz
      have HSD : Hid (SB RcK b11 (rcL q) wd ∧ wd.cell? ⟨pb, po + st, none⟩ = some (.int .i64 v)) := by rw [← hwd]; exact ⟨HI.out.1.blk ((drew_bel wz).block b11 HI.out.1.lt), HC0.out⟩
      clear hwd
      refine wp_region_held_drew (S := fun W => SB RcK b11 (rcL q) W ∧ W.cell? ⟨pb, po + st, none⟩ = some (.int .i64 v)) (by kernel_rfl) (by rw [HWD.out]; exact HSD.out) (fun hHeld => ?_)
      rw [HWD.out] at hHeld ⊢
      refine wpAnyH_take (i := 0) (v := .slice (some ⟨pb, po, none⟩) pn pc) rfl (by kernel_rfl) (by kernel_rfl) (by kernel_rfl) (fun _ _ _ h => h) (Or.inl ⟨by rfl, ?_⟩) (by assumption) ?_
      case refine_1 => intro W hSw; go_simp; try rfl
      try simp only [Act.put, List.getElem_toArray, List.getElem_cons_zero, List.getElem_cons_succ, List.setIfInBounds_toArray, List.set_cons_zero, List.set_cons_succ]
      refine wpAnyH_take (i := 1) (v := .int .i64 (st : Int)) rfl (by kernel_rfl) (by kernel_rfl) (by kernel_rfl) (fun _ _ _ h => h) (Or.inl ⟨by rfl, ?_⟩) (by assumption) ?_
      case refine_1 => intro W hSw; go_simp; try rfl
      try simp only [Act.put, List.getElem_toArray, List.getElem_cons_zero, List.getElem_cons_succ, List.setIfInBounds_toArray, List.set_cons_zero, List.set_cons_succ]
      refine wpAnyH_take (i := 2) (v := .pointer (some ⟨pb, po + st, none⟩)) rfl (by kernel_rfl) (by kernel_rfl) (by kernel_rfl) (fun _ _ _ h => h) (Or.inl ⟨by rfl, ?_⟩) (by assumption) ?_
      case refine_1 => intro W hSw; go_simp; try rfl
      try simp only [Act.put, List.getElem_toArray, List.getElem_cons_zero, List.getElem_cons_succ, List.setIfInBounds_toArray, List.set_cons_zero, List.set_cons_succ]
      refine wpAnyH_take (i := 3) (v := .int .i64 v) rfl (by kernel_rfl) (by kernel_rfl) (by kernel_rfl) (fun _ _ _ h => h) (Or.inl ⟨by rfl, ?_⟩) (by assumption) ?_
      case refine_1 => intro W hSw; have k1 : W.cell? ⟨pb, po + st, none⟩ = some (.int .i64 v) := hSw.2; go_simp; try rfl
      try simp only [Act.put, List.getElem_toArray, List.getElem_cons_zero, List.getElem_cons_succ, List.setIfInBounds_toArray, List.set_cons_zero, List.set_cons_succ]
      refine wpAnyH_take (i := 4) (v := .int .u64 u) rfl (by kernel_rfl) (by kernel_rfl) (by kernel_rfl) (fun _ _ _ h => h) (Or.inl ⟨by rfl, ?_⟩) (by assumption) ?_
      case refine_1 => intro W hSw; go_simp; try rfl
      try simp only [Act.put, List.getElem_toArray, List.getElem_cons_zero, List.getElem_cons_succ, List.setIfInBounds_toArray, List.set_cons_zero, List.set_cons_succ]
      refine wpAnyH_take (i := 5) (v := .pointer (some ⟨b11, 2, none⟩)) rfl (by kernel_rfl) (by kernel_rfl) (by kernel_rfl) (fun _ _ _ h => h) (Or.inl ⟨by rfl, ?_⟩) (by assumption) ?_
      case refine_1 => intro W hSw; go_simp; try rfl
      try simp only [Act.put, List.getElem_toArray, List.getElem_cons_zero, List.getElem_cons_succ, List.setIfInBounds_toArray, List.set_cons_zero, List.set_cons_succ]
      refine wpAnyH_take (i := 6) (v := .slice q.a m q.c) rfl (by kernel_rfl) (by kernel_rfl) (by kernel_rfl) (fun _ _ _ h => h) (Or.inl ⟨by rfl, ?_⟩) (by assumption) ?_
      case refine_1 => intro W hSw; have k1 : W.cell? ⟨b11, 2, none⟩ = some (.slice q.a m q.c) := (by rw [← HM.out]; exact hSw.1.cell 2); go_simp; try rfl
      try simp only [Act.put, List.getElem_toArray, List.getElem_cons_zero, List.getElem_cons_succ, List.setIfInBounds_toArray, List.set_cons_zero, List.set_cons_succ]
      refine wpAnyH_take (i := 7) (v := .int .i64 (m : Int)) rfl (by kernel_rfl) (by kernel_rfl) (by kernel_rfl) (fun _ _ _ h => h) (Or.inl ⟨by rfl, ?_⟩) (by assumption) ?_
      case refine_1 => intro W hSw; go_simp; try rfl
      try simp only [Act.put, List.getElem_toArray, List.getElem_cons_zero, List.getElem_cons_succ, List.setIfInBounds_toArray, List.set_cons_zero, List.set_cons_succ]
      refine wpAnyH_take (i := 8) (v := .int .u64 (m : Int)) rfl (by kernel_rfl) (by kernel_rfl) (by kernel_rfl) (fun _ _ _ h => h) (Or.inl ⟨by rfl, ?_⟩) (by assumption) ?_
      case refine_1 => intro W hSw; go_simp; try rfl
      try simp only [Act.put, List.getElem_toArray, List.getElem_cons_zero, List.getElem_cons_succ, List.setIfInBounds_toArray, List.set_cons_zero, List.set_cons_succ]
      refine wpAnyH_take (i := 9) (v := .int .u64 (k : Int)) rfl (by kernel_rfl) (by kernel_rfl) (by kernel_rfl) (fun _ _ _ h => h) (Or.inl ⟨by rfl, ?_⟩) (by assumption) ?_
      case refine_1 => intro W hSw; go_simp; try first | rfl | omega
      try simp only [Act.put, List.getElem_toArray, List.getElem_cons_zero, List.getElem_cons_succ, List.setIfInBounds_toArray, List.set_cons_zero, List.set_cons_succ]
      refine wpAnyH_take (i := 10) (v := .int .i64 (k : Int)) rfl (by kernel_rfl) (by kernel_rfl) (by kernel_rfl) (fun _ _ _ h => h) (Or.inl ⟨by rfl, ?_⟩) (by assumption) ?_
      case refine_1 => intro W hSw; go_simp; try rfl
      try simp only [Act.put, List.getElem_toArray, List.getElem_cons_zero, List.getElem_cons_succ, List.setIfInBounds_toArray, List.set_cons_zero, List.set_cons_succ]
      refine wpAnyH_take (i := 11) (v := .int .i64 (k : Int)) rfl (by kernel_rfl) (by kernel_rfl) (by kernel_rfl) (fun _ _ _ h => h) (Or.inl ⟨by rfl, ?_⟩) (by assumption) ?_
      case refine_1 => intro W hSw; go_simp; try rfl
      try simp only [Act.put, List.getElem_toArray, List.getElem_cons_zero, List.getElem_cons_succ, List.setIfInBounds_toArray, List.set_cons_zero, List.set_cons_succ]
      refine wpAnyH_done (by kernel_rfl) ?_ _
      clear hHeld hu hk hu0 hmu hki c112 hss
      have hk1 : (k : Int) < (m : Int) := by have := HKM.out; omega
      have hk2 : (0 : Int) ≤ (k : Int) := by omega
      have c112 : wd.cell? ⟨b11, 2, none⟩ = some (.slice q.a m q.c) := by rw [← HM.out]; exact HSD.out.1.cell 2
      have HBV : Hid (Below wz.heap.size wz wd) := HBD.out
      clear HBD HSD HWD HC0
      have HSV : Hid (SB RcK b11 (rcL q) wd) := HI.out.1.blk (HBV.out.block b11 HI.out.1.lt)
      have HTV : Hid (Tl N es x to q true wd) := HI.out.2.1.bel HBV.out
      have HBW : Hid (Below w.heap.size w wd) := HBz.out.trans (HBV.out.mono HBz.out.size)
      obtain ⟨lb, lo, hqa, -, hce⟩ := HTV.out.lst.1.cells k (by rw [HM.out]; exact HKM.out)
      obtain ⟨lk, hlk⟩ : ∃ z, q.ls[k]'(by rw [HM.out]; exact HKM.out) = z := ⟨_, rfl⟩
      rw [hlk] at hce
      have HLK : Hid (lk ∈ q.ls) := by rw [← hlk]; exact List.getElem_mem _
      have cl : wd.cell? ⟨lb, lo + k, none⟩ = some (.int .i64 lk) := by have := hce 0 (by decide); simpa [EI] using this
      rw [hqa] at c112
      clear hlk hce
      have HOV : Hid ((∃ i e, Ov es x lk i e) ∧ ∀ i e, Ov es x lk i e → Nx es q to e) := HTV.out.step HNE.out HLK.out
      go_wp2_with fail
      refine (over_any la n lc es x lk wd HX.out.2.1 (by have := HX.out.2.2; omega) (HX.out.1.bel HBW.out)).mono ?_
      rintro e0 w10 ⟨e, ok, rfl, hb10, ho1, ho2⟩
      have hok : ok = true := by
        cases ok
        · obtain ⟨i, y, hy⟩ := HOV.out.1
          exact absurd hy (ho2 rfl i y)
        · rfl
      subst hok
      have HEN : Hid (Nx es q to e) := by obtain ⟨i, hi⟩ := ho1 rfl; exact HOV.out.2 i e hi
      have HB10 : Hid (Below w.heap.size w w10) := HBW.out.trans (hb10.mono HBW.out.size)
      have HV10 : Hid (Below wz.heap.size wz w10) := HBV.out.trans (hb10.mono HBV.out.size)
      clear hb10 ho1 ho2 cl c112
      go_wp2_with (refine list_newl EdK _ z_ed rfl rfl ?_)
      intro b17 w11 hb hs hbl
      have HZb17 : Hid (w10.heap.size ≤ b17) := by rw [hb.out]; exact Nat.le_refl _
      have HYb17 : Hid (Below w10.heap.size w10 w11) := hbl.out
      have HS0 : Hid (SB EdK b17 (edL ⟨0, 0, 0, 0⟩) w11) := hs.out
      clear hb hs hbl
      go_wp2_with (refine list_sstore EdK rfl _ _ rfl (b := b17) (cs := edL ⟨0, 0, 0, 0⟩) (cs' := edL e) rfl rfl HS0.out rfl rfl rfl ?_)
      intro w12 hs hk
      have HNb17 : Hid (Below w10.heap.size w10 w12) := HYb17.out.trans (hk.out.below HZb17.out)
      have HSb17 : Hid (SB EdK b17 (edL e) w12) := hs.out
      clear hs hk HS0 HYb17
      have HB12 : Hid (Below w.heap.size w w12) := HB10.out.trans (HNb17.out.mono HB10.out.size)
      have HV12 : Hid (Below wz.heap.size wz w12) := HV10.out.trans (HNb17.out.mono HV10.out.size)
      have HEB : Hid (1 ≤ e.c ∧ e.c ≤ 65535) := ⟨HEN.out.1, HEN.out.2.1⟩
      have c171 : w12.cell? ⟨b17, 1, none⟩ = some (.int .i64 e.t) := HSb17.out.cell 1
      go_wp2_with fail
      clear c171
      refine (paths_any la n lc es e.t w12 HX.out.2.1 HX.out.2.2 (HX.out.1.bel (HB12.out))).mono ?_
      rintro e0 w13 ⟨vs3, f3, hnet, a3, m3, c3, rs3, rfl, hm, hl, -, hpw, hkn, hws, -, hb1⟩
      have HM3 : Hid (m3 < 1000000000) := by have h1 := pa_len hnet hpw hkn; rw [hm] at h1; have h3 := HX.out; show _ < _; omega
      have HL3 : Hid (Lst ER w13 a3 rs3 ∧ rs3.length = m3) := ⟨hl, hm⟩
      have HK3 : Hid (Net es vs3 e.t f3 ∧ (∀ v d ls, f3 v = some (d, ls) ↔ ∃ q ∈ rs3, q.n = v ∧ q.d = d ∧ q.ls = ls) ∧ Ws w12 rs3 w13 ∧ Below w12.heap.size w12 w13) := ⟨hnet, hkn, hws, hb1⟩
      have hm03 : (m3 : Int) < 1000000000 := by have := HM3.out; omega
      clear hnet hm hl hpw hkn hws hb1
      go_wp2_with fail
      refine (at_any a3 m3 c3 rs3 to w13 HL3.out.2 HM3.out HL3.out.1).mono ?_
      rintro e0 w14 ⟨q3, ok3, rfl, hb2, hq1, hq2⟩
      have HT3 : Hid (Tl w12.heap.size es e.t to q3 ok3 w14) := tell_of HK3.out.1 HK3.out.2.1 HK3.out.2.2.1 hb2 hq1 hq2
      have HW3 : Hid (Below w12.heap.size w12 w14) := HK3.out.2.2.2.trans (hb2.mono HK3.out.2.2.2.size)
      have HB3 : Hid (Below w.heap.size w w14) := (HB12.out).trans (HW3.out.mono (HB12.out).size)
      clear hb2 hq1 hq2 hm03
      obtain ⟨hok3, hd3⟩ := HEN.out.2.2 _ _ _ _ HT3.out
      subst hok3
      have HD3 : Hid (q3.d = q.d - e.c) := hd3
      clear hd3
      go_wp2_with (refine list_newl RcK _ z_rc rfl rfl ?_)
      intro b19 w15 hb hs hbl
      have HZb19 : Hid (w14.heap.size ≤ b19) := by rw [hb.out]; exact Nat.le_refl _
      have HYb19 : Hid (Below w14.heap.size w14 w15) := hbl.out
      have HS0 : Hid (SB RcK b19 (rcL zr) w15) := hs.out
      clear hb hs hbl
      go_wp2_with (refine list_sstore RcK rfl _ _ rfl (b := b19) (cs := rcL zr) (cs' := rcL q3) rfl rfl HS0.out rfl rfl rfl ?_)
      intro w16 hs hk
      have HNb19 : Hid (Below w14.heap.size w14 w16) := HYb19.out.trans (hk.out.below HZb19.out)
      have HSb19 : Hid (SB RcK b19 (rcL q3) w16) := hs.out
      clear hs hk HS0 HYb19
      have HB16 : Hid (Below w.heap.size w w16) := HB3.out.trans (HNb19.out.mono HB3.out.size)
      have HN16 : Hid (Below w12.heap.size w12 w16) := HW3.out.trans (HNb19.out.mono HW3.out.size)
      have HV16 : Hid (Below wz.heap.size wz w16) := HV12.out.trans (HN16.out.mono HV12.out.size)
      have HR16 : Hid (SB RcK b11 (rcL q) w16) := HI.out.1.blk (HV16.out.block b11 HI.out.1.lt)
      have HE16 : Hid (SB EdK b17 (edL e) w16) := HSb17.out.blk (HN16.out.block b17 HSb17.out.lt)
      have HT16 : Hid (Tl w12.heap.size es e.t to q3 true w16) := HT3.out.bel HNb19.out
      have HQ3 : Hid (0 ≤ q3.d ∧ q3.d ≤ far) := HT3.out.bd
      obtain ⟨d3, hd3⟩ : ∃ y, q3.d = y := ⟨_, rfl⟩
      obtain ⟨qd, hqd⟩ : ∃ y, q.d = y := ⟨_, rfl⟩
      obtain ⟨ec, hec⟩ : ∃ y, e.c = y := ⟨_, rfl⟩
      have HDD : Hid (q3.d = d3 ∧ q.d = qd ∧ e.c = ec) := ⟨hd3, hqd, hec⟩
      have c191 : w16.cell? ⟨b19, 1, none⟩ = some (.int .i64 d3) := by rw [← hd3]; exact HSb19.out.cell 1
      have c172 : w16.cell? ⟨b17, 2, none⟩ = some (.int .i64 ec) := by rw [← hec]; exact HE16.out.cell 2
      have c111 : w16.cell? ⟨b11, 1, none⟩ = some (.int .i64 qd) := by rw [← hqd]; exact HR16.out.cell 1
      have hwa : wrap64 (d3 + ec) = qd := by have h1 := HQB.out; have h2 := HQ3.out; have h3 := HD3.out; have h4 := HEB.out; have h5 : far = 4611686018427387903 := rfl; unfold wrap64; omega
      have hqq : (qd != qd) = false := by simp
      clear hd3 hqd hec
      obtain ⟨s2, hs2⟩ : ∃ z, st + 1 = z := ⟨_, rfl⟩
      have HS2 : Hid (st + 1 = s2) := hs2
      have hs3 : IntKind.i64.wrap ((st : Int) + 1) = (s2 : Int) := by rw [← hs2]; have := hst0; exact wr64 _ (by omega) (by omega)
      clear hs2
      go_upto_region 21 with fail
      clear c191 c172 c111 hwa hqq
      obtain ⟨wd2, hwd⟩ : ∃ y, w16.drew = y := ⟨_, rfl⟩
      have HWD2 : Hid (w16.drew = wd2) := hwd
      have HN17 : Hid (Below w16.heap.size w16 wd2) := by rw [← hwd]; exact drew_bel w16
      have HR17 : Hid (SB RcK b11 (rcL q) wd2) := HR16.out.blk (HN17.out.block b11 HR16.out.lt)
      have HS17 : Hid (SB EdK b17 (edL e) wd2 ∧ SB RcK b19 (rcL q3) wd2) := ⟨HE16.out.blk (HN17.out.block b17 HE16.out.lt), HSb19.out.blk (HN17.out.block b19 HSb19.out.lt)⟩
      clear hwd
      refine wp_region_held_drew (S := fun W => SB EdK b17 (edL e) W ∧ SB RcK b19 (rcL q3) W) (by kernel_rfl) (by rw [HWD2.out]; exact HS17.out) (fun hHeld => ?_)
      rw [HWD2.out] at hHeld ⊢
      refine wpAnyH_take (i := 0) (v := .pointer (some ⟨b17, 1, none⟩)) rfl (by kernel_rfl) (by kernel_rfl) (by kernel_rfl) (fun _ _ _ h => h) (Or.inl ⟨by rfl, ?_⟩) (by assumption) ?_
      case refine_1 => intro W hSw; go_simp; try rfl
      try simp only [Act.put, List.getElem_toArray, List.getElem_cons_zero, List.getElem_cons_succ, List.setIfInBounds_toArray, List.set_cons_zero, List.set_cons_succ]
      refine wpAnyH_take (i := 1) (v := .int .i64 e.t) rfl (by kernel_rfl) (by kernel_rfl) (by kernel_rfl) (fun _ _ _ h => h) (Or.inl ⟨by rfl, ?_⟩) (by assumption) ?_
      case refine_1 => intro W hSw; have k1 : W.cell? ⟨b17, 1, none⟩ = some (.int .i64 e.t) := hSw.1.cell 1; go_simp; try rfl
      try simp only [Act.put, List.getElem_toArray, List.getElem_cons_zero, List.getElem_cons_succ, List.setIfInBounds_toArray, List.set_cons_zero, List.set_cons_succ]
      refine wpAnyH_take (i := 2) (v := .agg (rcL q3).toArray) rfl (by kernel_rfl) (by kernel_rfl) (by kernel_rfl) (fun _ _ _ h => h) (Or.inl ⟨by rfl, (fun W hSw => sload_run RcK (.tmp 19) rfl rfl hSw.2 rfl)⟩) (by assumption) ?_
      try simp only [Act.put, List.getElem_toArray, List.getElem_cons_zero, List.getElem_cons_succ, List.setIfInBounds_toArray, List.set_cons_zero, List.set_cons_succ]
      refine wpAnyH_take (i := 3) (v := .int .i64 (st : Int)) rfl (by kernel_rfl) (by kernel_rfl) (by kernel_rfl) (fun _ _ _ h => h) (Or.inl ⟨by rfl, ?_⟩) (by assumption) ?_
      case refine_1 => intro W hSw; go_simp; try rfl
      try simp only [Act.put, List.getElem_toArray, List.getElem_cons_zero, List.getElem_cons_succ, List.setIfInBounds_toArray, List.set_cons_zero, List.set_cons_succ]
      refine wpAnyH_take (i := 4) (v := .int .i64 (s2 : Int)) rfl (by kernel_rfl) (by kernel_rfl) (by kernel_rfl) (fun _ _ _ h => h) (Or.inl ⟨by rfl, ?_⟩) (by assumption) ?_
      case refine_1 => intro W hSw; go_simp; try rfl
      try simp only [Act.put, List.getElem_toArray, List.getElem_cons_zero, List.getElem_cons_succ, List.setIfInBounds_toArray, List.set_cons_zero, List.set_cons_succ]
      refine wpAnyH_take (i := 5) (v := .int .i64 e.t) rfl (by kernel_rfl) (by kernel_rfl) (by kernel_rfl) (fun _ _ _ h => h) (Or.inl ⟨by rfl, ?_⟩) (by assumption) ?_
      case refine_1 => intro W hSw; go_simp; try rfl
      try simp only [Act.put, List.getElem_toArray, List.getElem_cons_zero, List.getElem_cons_succ, List.setIfInBounds_toArray, List.set_cons_zero, List.set_cons_succ]
      refine wpAnyH_ready (rs := [6]) (by kernel_rfl) (by simp) ?_
      refine AllReadyH.cons rfl (fun K hK => ?_) AllReadyH.nil
      refine sstore_step RcK (.tmp 11) (.tmp 112) rfl (b := b11) (cs := rcL q) (cs' := rcL q3) rfl rfl HR17.out rfl rfl rfl rfl (fun w18 hs18 hk18 => ?_)
      have HLB : Hid (b11 < wz.heap.size) := HI.out.1.lt
      have HNB : Hid (b17 ≠ b11 ∧ b19 ≠ b11) := by
        have h1 := HLB.out
        have h2 := HZb17.out
        have h3 := HZb19.out
        have h4 := HV10.out.size
        have h5 := HB3.out.size
        have h6 := HV12.out.size
        have h7 := HW3.out.size
        exact ⟨by omega, by omega⟩
      have HS18 : Hid (SB EdK b17 (edL e) w18 ∧ SB RcK b19 (rcL q3) w18) := ⟨HS17.out.1.blk (hk18.out.block b17 HNB.out.1), HS17.out.2.blk (hk18.out.block b19 HNB.out.2)⟩
      refine hK.out _ _ HS18.out (fun hHeld => ?_)
      clear hK K
      try simp only [Act.put, List.getElem_toArray, List.getElem_cons_zero, List.getElem_cons_succ, List.setIfInBounds_toArray, List.set_cons_zero, List.set_cons_succ]
      refine wpAnyH_take (i := 7) (v := .int .i64 (s2 : Int)) rfl (by kernel_rfl) (by kernel_rfl) (by kernel_rfl) (fun _ _ _ h => h) (Or.inl ⟨by rfl, ?_⟩) (by assumption) ?_
      case refine_1 => intro W hSw; go_simp; try rfl
      try simp only [Act.put, List.getElem_toArray, List.getElem_cons_zero, List.getElem_cons_succ, List.setIfInBounds_toArray, List.set_cons_zero, List.set_cons_succ]
      refine wpAnyH_done (by kernel_rfl) ?_ _
      have HG : Hid (Below w.heap.size w w18 ∧ SB RcK b11 (rcL q3) w18 ∧ Tl w12.heap.size es e.t to q3 true w18 ∧ (∀ b o s, q3.a = some ⟨b, o, s⟩ → b ≠ b11) ∧ (s2 : Int) + q3.d ≤ far ∧ q3.d < q.d) := by
        have hb18 := HB16.out.trans (HN17.out.mono HB16.out.size)
        have h0 := HT16.out.bel HN17.out
        have h1 := h0.lst
        have h2 : ∀ b o s, q3.a = some ⟨b, o, s⟩ → b ≠ b11 := fun b o s e c => by
          have h3 := (h1.2 b o s e).1
          have h4 := HLB.out
          have h5 := HV12.out.size
          omega
        have hwb : w.heap.size ≤ b11 := Nat.le_trans HB1.out.size HZb11.out
        have h9 := HS2.out
        have h10 := HI.out.2.2.2
        have h11 := HD3.out
        have h12 := HEB.out
        refine ⟨hb18.trans (hk18.out.below hwb), hs18.out, ?_, h2, by omega, by omega⟩
        obtain ⟨vs9, f9, g1, g2, g3⟩ := h0
        refine ⟨vs9, f9, g1, fun c => ⟨(g2 c).1, (g2 c).2.1.keep (by rw [hk18.out.size]; exact Nat.le_refl _) (fun b o e _ => hk18.out.block b (h2 b o none e)), fun b o s e => ⟨((g2 c).2.2 b o s e).1, by rw [hk18.out.size]; exact ((g2 c).2.2 b o s e).2⟩⟩, g3⟩
      clear hHeld hs18 hk18 HR17 HS17 hs3
      have c172 : w18.cell? ⟨b17, 2, none⟩ = some (.int .i64 ec) := by rw [← HDD.out.2.2]; exact HS18.out.1.cell 2
      have hws : wrap64 (q.d - ec) = d3 := by have h0 := HDD.out; have h1 := HQB.out; have h2 := HQ3.out; have h3 := HD3.out; have h4 := HEB.out; have h5 : far = 4611686018427387903 := rfl; unfold wrap64; omega
      go_wp2_with fail
      refine ⟨⟨e.t, s2, q3, w12.heap.size, rfl, rfl, by first | (rw [HDD.out.1, hws]) | (rw [HDD.out.1]), HG.out.1, HG.out.2.1, HG.out.2.2.1, HG.out.2.2.2.1, HG.out.2.2.2.2.1⟩, ?_⟩
      have h1 := HG.out.2.2.2.2.2
      have h2 := HQ3.out.1
      have h3 := HDD.out.1
      simp [intOf]
      omega
    have hss : ¬ (st : Int) < (pn : Int) := by omega
    have HKM : Hid (0 < m) := hmp
    have hk1 : (0 : Int) < (m : Int) := by omega
    have HBV : Hid (Below wz.heap.size wz wz) := Below.refl _ _
    have HSV : Hid (SB RcK b11 (rcL q) wz) := HI.out.1.blk (HBV.out.block b11 HI.out.1.lt)
    have HTV : Hid (Tl N es x to q true wz) := HI.out.2.1.bel HBV.out
    have HBW : Hid (Below w.heap.size w wz) := HBz.out.trans (HBV.out.mono HBz.out.size)
    obtain ⟨lb, lo, hqa, -, hce⟩ := HTV.out.lst.1.cells 0 (by rw [HM.out]; exact HKM.out)
    obtain ⟨lk, hlk⟩ : ∃ z, q.ls[0]'(by rw [HM.out]; exact HKM.out) = z := ⟨_, rfl⟩
    rw [hlk] at hce
    have HLK : Hid (lk ∈ q.ls) := by rw [← hlk]; exact List.getElem_mem _
    have cl : wz.cell? ⟨lb, lo, none⟩ = some (.int .i64 lk) := by have := hce 0 (by decide); simpa [EI] using this
    rw [hqa] at c112
    clear hlk hce
    have HOV : Hid ((∃ i e, Ov es x lk i e) ∧ ∀ i e, Ov es x lk i e → Nx es q to e) := HTV.out.step HNE.out HLK.out
    go_wp2_with fail
    refine (over_any la n lc es x lk wz HX.out.2.1 (by have := HX.out.2.2; omega) (HX.out.1.bel HBW.out)).mono ?_
    rintro e0 w10 ⟨e, ok, rfl, hb10, ho1, ho2⟩
    have hok : ok = true := by
      cases ok
      · obtain ⟨i, y, hy⟩ := HOV.out.1
        exact absurd hy (ho2 rfl i y)
      · rfl
    subst hok
    have HEN : Hid (Nx es q to e) := by obtain ⟨i, hi⟩ := ho1 rfl; exact HOV.out.2 i e hi
    have HB10 : Hid (Below w.heap.size w w10) := HBW.out.trans (hb10.mono HBW.out.size)
    have HV10 : Hid (Below wz.heap.size wz w10) := HBV.out.trans (hb10.mono HBV.out.size)
    clear hb10 ho1 ho2 cl c112
    go_wp2_with (refine list_newl EdK _ z_ed rfl rfl ?_)
    intro b17 w11 hb hs hbl
    have HZb17 : Hid (w10.heap.size ≤ b17) := by rw [hb.out]; exact Nat.le_refl _
    have HYb17 : Hid (Below w10.heap.size w10 w11) := hbl.out
    have HS0 : Hid (SB EdK b17 (edL ⟨0, 0, 0, 0⟩) w11) := hs.out
    clear hb hs hbl
    go_wp2_with (refine list_sstore EdK rfl _ _ rfl (b := b17) (cs := edL ⟨0, 0, 0, 0⟩) (cs' := edL e) rfl rfl HS0.out rfl rfl rfl ?_)
    intro w12 hs hk
    have HNb17 : Hid (Below w10.heap.size w10 w12) := HYb17.out.trans (hk.out.below HZb17.out)
    have HSb17 : Hid (SB EdK b17 (edL e) w12) := hs.out
    clear hs hk HS0 HYb17
    have HB12 : Hid (Below w.heap.size w w12) := HB10.out.trans (HNb17.out.mono HB10.out.size)
    have HV12 : Hid (Below wz.heap.size wz w12) := HV10.out.trans (HNb17.out.mono HV10.out.size)
    have HEB : Hid (1 ≤ e.c ∧ e.c ≤ 65535) := ⟨HEN.out.1, HEN.out.2.1⟩
    have c171 : w12.cell? ⟨b17, 1, none⟩ = some (.int .i64 e.t) := HSb17.out.cell 1
    go_wp2_with fail
    clear c171
    refine (paths_any la n lc es e.t w12 HX.out.2.1 HX.out.2.2 (HX.out.1.bel (HB12.out))).mono ?_
    rintro e0 w13 ⟨vs3, f3, hnet, a3, m3, c3, rs3, rfl, hm, hl, -, hpw, hkn, hws, -, hb1⟩
    have HM3 : Hid (m3 < 1000000000) := by have h1 := pa_len hnet hpw hkn; rw [hm] at h1; have h3 := HX.out; show _ < _; omega
    have HL3 : Hid (Lst ER w13 a3 rs3 ∧ rs3.length = m3) := ⟨hl, hm⟩
    have HK3 : Hid (Net es vs3 e.t f3 ∧ (∀ v d ls, f3 v = some (d, ls) ↔ ∃ q ∈ rs3, q.n = v ∧ q.d = d ∧ q.ls = ls) ∧ Ws w12 rs3 w13 ∧ Below w12.heap.size w12 w13) := ⟨hnet, hkn, hws, hb1⟩
    have hm03 : (m3 : Int) < 1000000000 := by have := HM3.out; omega
    clear hnet hm hl hpw hkn hws hb1
    go_wp2_with fail
    refine (at_any a3 m3 c3 rs3 to w13 HL3.out.2 HM3.out HL3.out.1).mono ?_
    rintro e0 w14 ⟨q3, ok3, rfl, hb2, hq1, hq2⟩
    have HT3 : Hid (Tl w12.heap.size es e.t to q3 ok3 w14) := tell_of HK3.out.1 HK3.out.2.1 HK3.out.2.2.1 hb2 hq1 hq2
    have HW3 : Hid (Below w12.heap.size w12 w14) := HK3.out.2.2.2.trans (hb2.mono HK3.out.2.2.2.size)
    have HB3 : Hid (Below w.heap.size w w14) := (HB12.out).trans (HW3.out.mono (HB12.out).size)
    clear hb2 hq1 hq2 hm03
    obtain ⟨hok3, hd3⟩ := HEN.out.2.2 _ _ _ _ HT3.out
    subst hok3
    have HD3 : Hid (q3.d = q.d - e.c) := hd3
    clear hd3
    go_wp2_with (refine list_newl RcK _ z_rc rfl rfl ?_)
    intro b19 w15 hb hs hbl
    have HZb19 : Hid (w14.heap.size ≤ b19) := by rw [hb.out]; exact Nat.le_refl _
    have HYb19 : Hid (Below w14.heap.size w14 w15) := hbl.out
    have HS0 : Hid (SB RcK b19 (rcL zr) w15) := hs.out
    clear hb hs hbl
    go_wp2_with (refine list_sstore RcK rfl _ _ rfl (b := b19) (cs := rcL zr) (cs' := rcL q3) rfl rfl HS0.out rfl rfl rfl ?_)
    intro w16 hs hk
    have HNb19 : Hid (Below w14.heap.size w14 w16) := HYb19.out.trans (hk.out.below HZb19.out)
    have HSb19 : Hid (SB RcK b19 (rcL q3) w16) := hs.out
    clear hs hk HS0 HYb19
    have HB16 : Hid (Below w.heap.size w w16) := HB3.out.trans (HNb19.out.mono HB3.out.size)
    have HN16 : Hid (Below w12.heap.size w12 w16) := HW3.out.trans (HNb19.out.mono HW3.out.size)
    have HV16 : Hid (Below wz.heap.size wz w16) := HV12.out.trans (HN16.out.mono HV12.out.size)
    have HR16 : Hid (SB RcK b11 (rcL q) w16) := HI.out.1.blk (HV16.out.block b11 HI.out.1.lt)
    have HE16 : Hid (SB EdK b17 (edL e) w16) := HSb17.out.blk (HN16.out.block b17 HSb17.out.lt)
    have HT16 : Hid (Tl w12.heap.size es e.t to q3 true w16) := HT3.out.bel HNb19.out
    have HQ3 : Hid (0 ≤ q3.d ∧ q3.d ≤ far) := HT3.out.bd
    obtain ⟨d3, hd3⟩ : ∃ y, q3.d = y := ⟨_, rfl⟩
    obtain ⟨qd, hqd⟩ : ∃ y, q.d = y := ⟨_, rfl⟩
    obtain ⟨ec, hec⟩ : ∃ y, e.c = y := ⟨_, rfl⟩
    have HDD : Hid (q3.d = d3 ∧ q.d = qd ∧ e.c = ec) := ⟨hd3, hqd, hec⟩
    have c191 : w16.cell? ⟨b19, 1, none⟩ = some (.int .i64 d3) := by rw [← hd3]; exact HSb19.out.cell 1
    have c172 : w16.cell? ⟨b17, 2, none⟩ = some (.int .i64 ec) := by rw [← hec]; exact HE16.out.cell 2
    have c111 : w16.cell? ⟨b11, 1, none⟩ = some (.int .i64 qd) := by rw [← hqd]; exact HR16.out.cell 1
    have hwa : wrap64 (d3 + ec) = qd := by have h1 := HQB.out; have h2 := HQ3.out; have h3 := HD3.out; have h4 := HEB.out; have h5 : far = 4611686018427387903 := rfl; unfold wrap64; omega
    have hqq : (qd != qd) = false := by simp
    clear hd3 hqd hec
    obtain ⟨s2, hs2⟩ : ∃ z, st + 1 = z := ⟨_, rfl⟩
    have HS2 : Hid (st + 1 = s2) := hs2
    have hs3 : IntKind.i64.wrap ((st : Int) + 1) = (s2 : Int) := by rw [← hs2]; have := hst0; exact wr64 _ (by omega) (by omega)
    clear hs2
    go_upto_region 21 with fail
    clear c191 c172 c111 hwa hqq
    obtain ⟨wd2, hwd⟩ : ∃ y, w16.drew = y := ⟨_, rfl⟩
    have HWD2 : Hid (w16.drew = wd2) := hwd
    have HN17 : Hid (Below w16.heap.size w16 wd2) := by rw [← hwd]; exact drew_bel w16
    have HR17 : Hid (SB RcK b11 (rcL q) wd2) := HR16.out.blk (HN17.out.block b11 HR16.out.lt)
    have HS17 : Hid (SB EdK b17 (edL e) wd2 ∧ SB RcK b19 (rcL q3) wd2) := ⟨HE16.out.blk (HN17.out.block b17 HE16.out.lt), HSb19.out.blk (HN17.out.block b19 HSb19.out.lt)⟩
    clear hwd
    refine wp_region_held_drew (S := fun W => SB EdK b17 (edL e) W ∧ SB RcK b19 (rcL q3) W) (by kernel_rfl) (by rw [HWD2.out]; exact HS17.out) (fun hHeld => ?_)
    rw [HWD2.out] at hHeld ⊢
    refine wpAnyH_take (i := 0) (v := .pointer (some ⟨b17, 1, none⟩)) rfl (by kernel_rfl) (by kernel_rfl) (by kernel_rfl) (fun _ _ _ h => h) (Or.inl ⟨by rfl, ?_⟩) (by assumption) ?_
    case refine_1 => intro W hSw; go_simp; try rfl
    try simp only [Act.put, List.getElem_toArray, List.getElem_cons_zero, List.getElem_cons_succ, List.setIfInBounds_toArray, List.set_cons_zero, List.set_cons_succ]
    refine wpAnyH_take (i := 1) (v := .int .i64 e.t) rfl (by kernel_rfl) (by kernel_rfl) (by kernel_rfl) (fun _ _ _ h => h) (Or.inl ⟨by rfl, ?_⟩) (by assumption) ?_
    case refine_1 => intro W hSw; have k1 : W.cell? ⟨b17, 1, none⟩ = some (.int .i64 e.t) := hSw.1.cell 1; go_simp; try rfl
    try simp only [Act.put, List.getElem_toArray, List.getElem_cons_zero, List.getElem_cons_succ, List.setIfInBounds_toArray, List.set_cons_zero, List.set_cons_succ]
    refine wpAnyH_take (i := 2) (v := .agg (rcL q3).toArray) rfl (by kernel_rfl) (by kernel_rfl) (by kernel_rfl) (fun _ _ _ h => h) (Or.inl ⟨by rfl, (fun W hSw => sload_run RcK (.tmp 19) rfl rfl hSw.2 rfl)⟩) (by assumption) ?_
    try simp only [Act.put, List.getElem_toArray, List.getElem_cons_zero, List.getElem_cons_succ, List.setIfInBounds_toArray, List.set_cons_zero, List.set_cons_succ]
    refine wpAnyH_take (i := 3) (v := .int .i64 (st : Int)) rfl (by kernel_rfl) (by kernel_rfl) (by kernel_rfl) (fun _ _ _ h => h) (Or.inl ⟨by rfl, ?_⟩) (by assumption) ?_
    case refine_1 => intro W hSw; go_simp; try rfl
    try simp only [Act.put, List.getElem_toArray, List.getElem_cons_zero, List.getElem_cons_succ, List.setIfInBounds_toArray, List.set_cons_zero, List.set_cons_succ]
    refine wpAnyH_take (i := 4) (v := .int .i64 (s2 : Int)) rfl (by kernel_rfl) (by kernel_rfl) (by kernel_rfl) (fun _ _ _ h => h) (Or.inl ⟨by rfl, ?_⟩) (by assumption) ?_
    case refine_1 => intro W hSw; go_simp; try rfl
    try simp only [Act.put, List.getElem_toArray, List.getElem_cons_zero, List.getElem_cons_succ, List.setIfInBounds_toArray, List.set_cons_zero, List.set_cons_succ]
    refine wpAnyH_take (i := 5) (v := .int .i64 e.t) rfl (by kernel_rfl) (by kernel_rfl) (by kernel_rfl) (fun _ _ _ h => h) (Or.inl ⟨by rfl, ?_⟩) (by assumption) ?_
    case refine_1 => intro W hSw; go_simp; try rfl
    try simp only [Act.put, List.getElem_toArray, List.getElem_cons_zero, List.getElem_cons_succ, List.setIfInBounds_toArray, List.set_cons_zero, List.set_cons_succ]
    refine wpAnyH_ready (rs := [6]) (by kernel_rfl) (by simp) ?_
    refine AllReadyH.cons rfl (fun K hK => ?_) AllReadyH.nil
    refine sstore_step RcK (.tmp 11) (.tmp 112) rfl (b := b11) (cs := rcL q) (cs' := rcL q3) rfl rfl HR17.out rfl rfl rfl rfl (fun w18 hs18 hk18 => ?_)
    have HLB : Hid (b11 < wz.heap.size) := HI.out.1.lt
    have HNB : Hid (b17 ≠ b11 ∧ b19 ≠ b11) := by
      have h1 := HLB.out
      have h2 := HZb17.out
      have h3 := HZb19.out
      have h4 := HV10.out.size
      have h5 := HB3.out.size
      have h6 := HV12.out.size
      have h7 := HW3.out.size
      exact ⟨by omega, by omega⟩
    have HS18 : Hid (SB EdK b17 (edL e) w18 ∧ SB RcK b19 (rcL q3) w18) := ⟨HS17.out.1.blk (hk18.out.block b17 HNB.out.1), HS17.out.2.blk (hk18.out.block b19 HNB.out.2)⟩
    refine hK.out _ _ HS18.out (fun hHeld => ?_)
    clear hK K
    try simp only [Act.put, List.getElem_toArray, List.getElem_cons_zero, List.getElem_cons_succ, List.setIfInBounds_toArray, List.set_cons_zero, List.set_cons_succ]
    refine wpAnyH_take (i := 7) (v := .int .i64 (s2 : Int)) rfl (by kernel_rfl) (by kernel_rfl) (by kernel_rfl) (fun _ _ _ h => h) (Or.inl ⟨by rfl, ?_⟩) (by assumption) ?_
    case refine_1 => intro W hSw; go_simp; try rfl
    try simp only [Act.put, List.getElem_toArray, List.getElem_cons_zero, List.getElem_cons_succ, List.setIfInBounds_toArray, List.set_cons_zero, List.set_cons_succ]
    refine wpAnyH_done (by kernel_rfl) ?_ _
    have HG : Hid (Below w.heap.size w w18 ∧ SB RcK b11 (rcL q3) w18 ∧ Tl w12.heap.size es e.t to q3 true w18 ∧ (∀ b o s, q3.a = some ⟨b, o, s⟩ → b ≠ b11) ∧ (s2 : Int) + q3.d ≤ far ∧ q3.d < q.d) := by
      have hb18 := HB16.out.trans (HN17.out.mono HB16.out.size)
      have h0 := HT16.out.bel HN17.out
      have h1 := h0.lst
      have h2 : ∀ b o s, q3.a = some ⟨b, o, s⟩ → b ≠ b11 := fun b o s e c => by
        have h3 := (h1.2 b o s e).1
        have h4 := HLB.out
        have h5 := HV12.out.size
        omega
      have hwb : w.heap.size ≤ b11 := Nat.le_trans HB1.out.size HZb11.out
      have h9 := HS2.out
      have h10 := HI.out.2.2.2
      have h11 := HD3.out
      have h12 := HEB.out
      refine ⟨hb18.trans (hk18.out.below hwb), hs18.out, ?_, h2, by omega, by omega⟩
      obtain ⟨vs9, f9, g1, g2, g3⟩ := h0
      refine ⟨vs9, f9, g1, fun c => ⟨(g2 c).1, (g2 c).2.1.keep (by rw [hk18.out.size]; exact Nat.le_refl _) (fun b o e _ => hk18.out.block b (h2 b o none e)), fun b o s e => ⟨((g2 c).2.2 b o s e).1, by rw [hk18.out.size]; exact ((g2 c).2.2 b o s e).2⟩⟩, g3⟩
    clear hHeld hs18 hk18 HR17 HS17 hs3
    have c172 : w18.cell? ⟨b17, 2, none⟩ = some (.int .i64 ec) := by rw [← HDD.out.2.2]; exact HS18.out.1.cell 2
    have hws : wrap64 (q.d - ec) = d3 := by have h0 := HDD.out; have h1 := HQB.out; have h2 := HQ3.out; have h3 := HD3.out; have h4 := HEB.out; have h5 : far = 4611686018427387903 := rfl; unfold wrap64; omega
    go_wp2_with fail
    refine ⟨⟨e.t, s2, q3, w12.heap.size, rfl, rfl, by first | (rw [HDD.out.1, hws]) | (rw [HDD.out.1]), HG.out.1, HG.out.2.1, HG.out.2.2.1, HG.out.2.2.2.1, HG.out.2.2.2.2.1⟩, ?_⟩
    have h1 := HG.out.2.2.2.2.2
    have h2 := HQ3.out.1
    have h3 := HDD.out.1
    simp [intOf]
    omega
end Go.Proofs.Ythhdpfgepjmgkaa.Dj
