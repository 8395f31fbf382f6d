/- SpfEdges: the edges that count. SpfStanding: of the edges that count, those that stand. -/
import Derived.Test.YthhdpfgepjmgkaaMgC
namespace Go.Proofs.Ythhdpfgepjmgkaa.Dj
open Go.ChangeShapes Go.WideShapes Go.ChangeAt Go.RowKit Go.Joins Go.Deep Go.Proofs.Ythhdpfgepjmgkaa.Ge
set_option linter.unusedVariables false
set_option linter.unusedSimpArgs false

theorem Aw.len {es al : List Ed} {i : Nat} (h : Aw es i al) : al.length ≤ es.length := by
  classical
  refine nodup_le _ _ ?_ ?_
  · rw [List.nodup_iff_pairwise_ne]
    exact h.so.imp (fun {a b} c d => by subst d; unfold eLt at c; omega)
  · intro e he
    obtain ⟨i, -, h1, -⟩ := (h.mem e).1 he
    exact List.mem_of_getElem? h1
theorem Aw.all {es al : List Ed} {i : Nat} (h : Aw es i al) (hi : i = es.length) : Aa es al := by subst hi; exact h
def Lo (es : List Ed) (i j : Nat) (e : Ed) : Prop := ∀ q x, i < q → q < j → es[q]? = some x → ¬ (vd x = true ∧ x.f = e.f ∧ x.l = e.l)
theorem Lo.next {es : List Ed} {i j : Nat} {e x : Ed} (hx : es[j]? = some x) (hij : i < j) : Lo es i (j + 1) e ↔ Lo es i j e ∧ ¬ (vd x = true ∧ x.f = e.f ∧ x.l = e.l) := by
  constructor
  · intro h
    exact ⟨fun q y h1 h2 h3 => h q y h1 (by omega) h3, h j x hij (by omega) hx⟩
  · rintro ⟨h, h2⟩ q y h3 h4 h5
    by_cases c : q = j
    · subst c
      rw [hx] at h5
      cases h5
      exact h2
    · exact h q y h3 (by omega) h5
theorem Lo.ct {es : List Ed} {i j : Nat} {e : Ed} (he : es[i]? = some e) (hv : vd e = true) (hj : es.length ≤ j) : Lo es i j e ↔ Ct es i := by
  constructor
  · intro h
    exact ⟨e, he, hv, fun q x h1 h2 => h q x h1 (by have := (List.getElem?_eq_some_iff.1 h2).1; omega) h2⟩
  · rintro ⟨y, h1, h2, h3⟩ q x h4 h5 h6
    rw [he] at h1
    cases h1
    exact h3 q x h4 h6
def SePost (w : World) (es : List Ed) (e : Ending) (w' : World) : Prop := ∃ (v : Value) (al : List Ed), e = .returned v ∧ OwnL EE w.heap.size w' v al ∧ Aa es al ∧ Below w.heap.size w w'
set_option maxRecDepth 100000 in
set_option maxHeartbeats 64000000 in
theorem edges_any (la : Option Addr) (n lc : Nat) (es : List Ed) (w : World) (hn : es.length = n) (hb : n < 100000000) (h : Lst EE w la es) : Calls Try.prog 23 #[.slice la n lc] w (SePost w es) := by
  have HX : Hid (Lst EE w la es ∧ es.length = n ∧ n < 100000000) := ⟨h, hn, hb⟩
  have hn0 : (n : Int) < 100000000 := by omega
  have hn2 : (0 : Int) ≤ (n : Int) := by omega
  clear h hn hb
  go_enter Try.func23, Try.ntmps23
  go_wp2_with fail
  go_loopw [10, 3, 4, 5, 6, 7] (fun iv ov _ _ _ _ wr => ∃ (i : Nat) (al : List Ed), i ≤ n ∧ iv = .int .i64 (i : Int) ∧ Below w.heap.size w wr ∧ OwnL EE w.heap.size wr ov al ∧ Aw es i al) (fun iv _ _ _ _ _ _ => n - (intOf iv).toNat)
  case atStart => exact ⟨0, [], Nat.zero_le _, rfl, Below.refl _ _, OwnL.nil _ _ _, Aw.nil es⟩
  case round =>
    obtain ⟨i, al, hin, rfl, hbl, how, haw⟩ := hrel
    obtain ⟨wz, hwz⟩ : ∃ y, wr = y := ⟨_, rfl⟩
    rw [hwz] at hbl how ⊢
    obtain ⟨oa, oc, rfl⟩ := own_sl how
    obtain ⟨m, hm⟩ : ∃ y, al.length = y := ⟨_, rfl⟩
    rw [hm] at how ⊢
    have HI : Hid (Below w.heap.size w wz ∧ OwnL EE w.heap.size wz (.slice oa m oc) al ∧ Aw es i al ∧ al.length = m ∧ i ≤ n ∧ m ≤ n) := ⟨hbl, how, haw, hm, hin, by have := haw.len; have := HX.out.2.1; omega⟩
    have hi0 : (i : Int) < 100000000 := by omega
    have hi2 : (0 : Int) ≤ (i : Int) := by omega
    clear hbl how haw hm hwz
    by_cases hlt : i < n
    case neg =>
      have hii : ¬ (i : Int) < (n : Int) := by omega
      have HE : Hid (SePost w es (.returned (.slice oa m oc)) wz) := ⟨_, al, rfl, HI.out.2.1, HI.out.2.2.1.all (by have := HX.out.2.1; have := HI.out.2.2.2.2.1; omega), HI.out.1⟩
      go_wp2_with fail
      go_ret
      exact HE.out
    have hii : (i : Int) < (n : Int) := by omega
    obtain ⟨e, he⟩ : ∃ y, es[i]? = some y := ⟨es[i]'(by have := HX.out.2.1; omega), List.getElem?_eq_getElem _⟩
    have HEi : Hid (es[i]? = some e) := he
    obtain ⟨lb, lo, rfl, -, -⟩ := HX.out.1.cells i (by have := HX.out.2.1; omega)
    have HCE : Hid (∀ q, q < 4 → wz.cell? ⟨lb, lo + i * 4 + q, none⟩ = (edL e)[q]?) := fun q hq => ed_cells HX.out.1 HI.out.1 HEi.out q hq
    clear he
    go_wp2_with (first | (refine list_sat EdK rfl _ rfl (b := lb) (k := lo + i * 4) (cs := edL e) rfl HCE.out rfl ?_) | (refine list_newl EdK _ z_ed rfl rfl ?_))
    intro b5 w5 hb5 hs5 hbl5
    have HB5 : Hid (wz.heap.size ≤ b5 ∧ Below wz.heap.size wz w5) := ⟨by rw [hb5.out]; exact Nat.le_refl _, hbl5.out⟩
    have HS5 : Hid (SB EdK b5 (edL ⟨0, 0, 0, 0⟩) w5) := hs5.out
    clear hb5 hs5 hbl5 HCE
    go_wp2_with (refine list_sstore EdK rfl _ _ rfl (b := b5) (cs := edL ⟨0, 0, 0, 0⟩) (cs' := edL e) rfl rfl HS5.out rfl rfl rfl ?_)
    intro w6 hs6 hk6
    have HS6 : Hid (SB EdK b5 (edL e) w6) := hs6.out
    have HB6 : Hid (Below wz.heap.size wz w6) := HB5.out.2.trans (hk6.out.below HB5.out.1)
    clear hs6 hk6 HS5
    go_wp2_with (refine list_sload EdK rfl _ rfl (b := b5) (cs := edL e) rfl HS6.out rfl ?_)
    refine (rvalid_any e w6).mono ?_
    rintro e0 w7 ⟨rfl, hb7⟩
    obtain ⟨ve, hve⟩ : ∃ y, vd e = y := ⟨_, rfl⟩
    have HVE : Hid (vd e = ve) := hve
    have HB7 : Hid (Below wz.heap.size wz w7) := HB6.out.trans (hb7.mono HB6.out.size)
    have HS7 : Hid (SB EdK b5 (edL e) w7) := HS6.out.blk (hb7.block b5 HS6.out.lt)
    rw [hve]
    clear hb7 hve HS6 HB6
    have HG : Hid (∀ W, Below wz.heap.size wz W → ¬ Ct es i → (∃ (i2 : Nat) (as2 : List Ed), i2 ≤ n ∧ Value.int .i64 (↑i + 1) = .int .i64 (i2 : Int) ∧ Below w.heap.size w W ∧ OwnL EE w.heap.size W (.slice oa m oc) as2 ∧ Aw es i2 as2)) := fun W hW hno => ⟨i + 1, al, by omega, by simp, HI.out.1.trans (hW.mono HI.out.1.size), HI.out.2.1.bel hW, HI.out.2.2.1.skip hno⟩
    cases ve
    case false =>
      have HN : Hid (¬ Ct es i) := fun ⟨y, h1, h2, _⟩ => (by rw [HEi.out] at h1; cases h1; rw [HVE.out] at h2; cases h2)
      go_wp2_with fail
      refine ⟨HG.out w7 HB7.out HN.out, ?_⟩
      simp [intOf]
      omega
    go_wp2_with fail
    go_loopw [7, 6] (fun jv lv wr => ∃ (j : Nat) (lt : Bool), i < j ∧ j ≤ n ∧ jv = .int .i64 (j : Int) ∧ lv = .bool lt ∧ Below wz.heap.size wz wr ∧ SB EdK b5 (edL e) wr ∧ (lt = true ↔ Lo es i j e)) (fun jv _ _ => n - (intOf jv).toNat)
    case atStart => exact ⟨i + 1, true, by omega, by omega, by simp, rfl, HB7.out, HS7.out, ⟨fun _ q x h1 h2 => by omega, fun _ => rfl⟩⟩
    case round =>
      obtain ⟨j, lt, hij, hjn, rfl, rfl, hbl, hsb, hlo⟩ := hrel
      obtain ⟨wy, hwy⟩ : ∃ y, wr = y := ⟨_, rfl⟩
      rw [hwy] at hbl hsb ⊢
      have HJ : Hid (Below wz.heap.size wz wy ∧ SB EdK b5 (edL e) wy ∧ (lt = true ↔ Lo es i j e) ∧ i < j ∧ j ≤ n) := ⟨hbl, hsb, hlo, hij, hjn⟩
      have hj0 : (j : Int) < 100000000 := by omega
      have hj2 : (0 : Int) ≤ (j : Int) := by omega
      clear hbl hsb hlo hwy HS7 HB7
      by_cases hlt2 : j < n
      case neg =>
        have hjj : ¬ (j : Int) < (n : Int) := by omega
        have HCT : Hid (lt = true ↔ Ct es i) := HJ.out.2.2.1.trans (Lo.ct HEi.out HVE.out (by have := HX.out.2.1; omega))
        cases lt
        case false =>
          have HN : Hid (¬ Ct es i) := fun c => (by have := HCT.out.2 c; cases this)
          go_wp2_with fail
          refine ⟨HG.out wy HJ.out.1 HN.out, ?_⟩
          simp [intOf]
          omega
        have HCI : Hid (Ct es i) := HCT.out.1 rfl
        go_wp2_with (refine list_sload EdK rfl _ rfl (b := b5) (cs := edL e) rfl HJ.out.2.1 rfl ?_)
        refine (place_any w.heap.size oa m oc al e wy (by have := HI.out.2.2.2.2.2; have := HX.out.2.2; omega) (HI.out.2.1.bel HJ.out.1)).mono ?_
        rintro e0 w8 ⟨k, v, rfl, hk, h1, h2, how, hb8⟩
        have HG2 : Hid (∃ (i2 : Nat) (as2 : List Ed), i2 ≤ n ∧ Value.int .i64 (↑i + 1) = .int .i64 (i2 : Int) ∧ Below w.heap.size w w8 ∧ OwnL EE w.heap.size w8 v as2 ∧ Aw es i2 as2) := ⟨i + 1, _, by omega, by simp, (HI.out.1.trans (HJ.out.1.mono HI.out.1.size)).trans (hb8.mono (Nat.le_trans HI.out.1.size HJ.out.1.size)), how.mono (Nat.le_trans HI.out.1.size HJ.out.1.size), HI.out.2.2.1.add HEi.out HCI.out h1 h2⟩
        clear hk h1 h2 how hb8
        go_wp2_with fail
        refine ⟨HG2.out, ?_⟩
        simp [intOf]
        omega
      have hjj : (j : Int) < (n : Int) := by omega
      obtain ⟨x, hx⟩ : ∃ y, es[j]? = some y := ⟨es[j]'(by have := HX.out.2.1; omega), List.getElem?_eq_getElem _⟩
      have HXJ : Hid (es[j]? = some x) := hx
      clear hx
      go_upto_region 10 with fail
      obtain ⟨wd, hwd⟩ : ∃ y, wy.drew = y := ⟨_, rfl⟩
      have HWD : Hid (wy.drew = wd) := hwd
      have HBD : Hid (Below wz.heap.size wz wd ∧ SB EdK b5 (edL e) wd) := by rw [← hwd]; exact ⟨HJ.out.1.trans ((drew_bel wy).mono HJ.out.1.size), HJ.out.2.1.blk ((drew_bel wy).block b5 HJ.out.2.1.lt)⟩
      clear hwd
      refine wp_region_held_drew (S := fun W => Below wz.heap.size wz W ∧ SB EdK b5 (edL e) W) (by kernel_rfl) (by rw [HWD.out]; exact HBD.out) (fun hHeld => ?_)
      rw [HWD.out] at hHeld ⊢
      have HEC : Hid (∀ W, Below wz.heap.size wz W → ∀ q, q < 4 → W.cell? ⟨lb, lo + j * 4 + q, none⟩ = (edL x)[q]?) := fun W hW q hq => ed_cells HX.out.1 (HI.out.1.trans (hW.mono HI.out.1.size)) HXJ.out q hq
      refine wpAnyH_take (i := 0) (v := .slice (some ⟨lb, lo, none⟩) n lc) rfl (by kernel_rfl) (by kernel_rfl) (by kernel_rfl) (fun _ _ _ h => h) (Or.inl ⟨by rfl, ?_⟩) (by assumption) ?_
      case refine_1 => intro W hSw; go_simp; try rfl
      try simp only [Act.put, List.getElem_toArray, List.getElem_cons_zero, List.getElem_cons_succ, List.setIfInBounds_toArray, List.set_cons_zero, List.set_cons_succ]
      refine wpAnyH_take (i := 1) (v := .int .i64 (j : Int)) rfl (by kernel_rfl) (by kernel_rfl) (by kernel_rfl) (fun _ _ _ h => h) (Or.inl ⟨by rfl, ?_⟩) (by assumption) ?_
      case refine_1 => intro W hSw; go_simp; try rfl
      try simp only [Act.put, List.getElem_toArray, List.getElem_cons_zero, List.getElem_cons_succ, List.setIfInBounds_toArray, List.set_cons_zero, List.set_cons_succ]
      refine wpAnyH_take (i := 2) (v := .pointer (some ⟨lb, lo + j * 4, none⟩)) rfl (by kernel_rfl) (by kernel_rfl) (by kernel_rfl) (fun _ _ _ h => h) (Or.inl ⟨by rfl, ?_⟩) (by assumption) ?_
      case refine_1 => intro W hSw; go_simp; try rfl
      try simp only [Act.put, List.getElem_toArray, List.getElem_cons_zero, List.getElem_cons_succ, List.setIfInBounds_toArray, List.set_cons_zero, List.set_cons_succ]
      refine wpAnyH_take (i := 3) (v := .agg (edL x).toArray) rfl (by kernel_rfl) (by kernel_rfl) (by kernel_rfl) (fun _ _ _ h => h) (Or.inl ⟨by rfl, (fun W hSw => sat_run EdK (.tmp 28) rfl (b := lb) (k := lo + j * 4) rfl (HEC.out W hSw.1) rfl)⟩) (by assumption) ?_
      try simp only [Act.put, List.getElem_toArray, List.getElem_cons_zero, List.getElem_cons_succ, List.setIfInBounds_toArray, List.set_cons_zero, List.set_cons_succ]
      refine wpAnyH_ready (rs := [4]) (by kernel_rfl) (by simp) ?_
      refine AllReadyH.cons rfl (fun K hK => ?_) AllReadyH.nil
      go_simp
      refine (rvalid_any x wd).mono ?_
      rintro e0 wf ⟨rfl, hbf⟩
      have HBF : Hid (Below wz.heap.size wz wf ∧ SB EdK b5 (edL e) wf) := ⟨HBD.out.1.trans (hbf.mono HBD.out.1.size), HBD.out.2.blk (hbf.block b5 HBD.out.2.lt)⟩
      refine hK.out _ _ HBF.out (fun hHeld => ?_)
      clear hK K hbf
      obtain ⟨vx, hvx⟩ : ∃ y, vd x = y := ⟨_, rfl⟩
      have HVX : Hid (vd x = vx) := hvx
      rw [hvx]
      clear hvx
      obtain ⟨fx, hfx⟩ : ∃ y, (x.f == e.f) = y := ⟨_, rfl⟩
      have HFX : Hid ((x.f == e.f) = fx) := hfx
      obtain ⟨lx, hlx⟩ : ∃ y, (x.l == e.l) = y := ⟨_, rfl⟩
      have HLX : Hid ((x.l == e.l) = lx) := hlx
      clear hfx hlx
      have HP : Hid ((vd x = true ∧ x.f = e.f ∧ x.l = e.l) ↔ (vx = true ∧ fx = true ∧ lx = true)) := by
        show _ ↔ _
        rw [← HVX.out, ← HFX.out, ← HLX.out]
        simp
      have HR : Hid (∀ l2, (l2 = true ↔ Lo es i (j + 1) e) → (∃ (j2 : Nat) (lt2 : Bool), i < j2 ∧ j2 ≤ n ∧ Value.int .i64 (↑j + 1) = .int .i64 (j2 : Int) ∧ Value.bool l2 = .bool lt2 ∧ Below wz.heap.size wz wf ∧ SB EdK b5 (edL e) wf ∧ (lt2 = true ↔ Lo es i j2 e))) := fun l2 h => ⟨j + 1, l2, by omega, by omega, by simp, rfl, HBF.out.1, HBF.out.2, h⟩
      have HNX : Hid (Lo es i (j + 1) e ↔ Lo es i j e ∧ ¬ (vd x = true ∧ x.f = e.f ∧ x.l = e.l)) := Lo.next HXJ.out HJ.out.2.2.2.1
      have HLJ : Hid (lt = true ↔ Lo es i j e) := HJ.out.2.2.1
      cases vx
      case false =>
        have HL2 : Hid (lt = true ↔ Lo es i (j + 1) e) := HLJ.out.trans (by rw [HNX.out, HP.out]; simp)
        refine wpAnyH_take (i := 5) (v := .bool false) rfl (by kernel_rfl) (by kernel_rfl) (by kernel_rfl) (fun _ _ _ h => h) (Or.inl ⟨by rfl, ?_⟩) (by assumption) ?_
        case refine_1 => intro W hSw; go_simp; try rfl
        try simp only [Act.put, List.getElem_toArray, List.getElem_cons_zero, List.getElem_cons_succ, List.setIfInBounds_toArray, List.set_cons_zero, List.set_cons_succ]
        refine wpAnyH_take (i := 6) (v := undef) rfl (by kernel_rfl) (by kernel_rfl) (by kernel_rfl) (fun _ _ _ h => h) (Or.inr ⟨by rfl, rfl⟩) (by assumption) ?_
        try simp only [Act.put, List.getElem_toArray, List.getElem_cons_zero, List.getElem_cons_succ, List.setIfInBounds_toArray, List.set_cons_zero, List.set_cons_succ]
        refine wpAnyH_take (i := 7) (v := undef) rfl (by kernel_rfl) (by kernel_rfl) (by kernel_rfl) (fun _ _ _ h => h) (Or.inr ⟨by rfl, rfl⟩) (by assumption) ?_
        try simp only [Act.put, List.getElem_toArray, List.getElem_cons_zero, List.getElem_cons_succ, List.setIfInBounds_toArray, List.set_cons_zero, List.set_cons_succ]
        refine wpAnyH_take (i := 8) (v := undef) rfl (by kernel_rfl) (by kernel_rfl) (by kernel_rfl) (fun _ _ _ h => h) (Or.inr ⟨by rfl, rfl⟩) (by assumption) ?_
        try simp only [Act.put, List.getElem_toArray, List.getElem_cons_zero, List.getElem_cons_succ, List.setIfInBounds_toArray, List.set_cons_zero, List.set_cons_succ]
        refine wpAnyH_take (i := 9) (v := undef) rfl (by kernel_rfl) (by kernel_rfl) (by kernel_rfl) (fun _ _ _ h => h) (Or.inr ⟨by rfl, rfl⟩) (by assumption) ?_
        try simp only [Act.put, List.getElem_toArray, List.getElem_cons_zero, List.getElem_cons_succ, List.setIfInBounds_toArray, List.set_cons_zero, List.set_cons_succ]
        refine wpAnyH_take (i := 10) (v := undef) rfl (by kernel_rfl) (by kernel_rfl) (by kernel_rfl) (fun _ _ _ h => h) (Or.inr ⟨by rfl, rfl⟩) (by assumption) ?_
        try simp only [Act.put, List.getElem_toArray, List.getElem_cons_zero, List.getElem_cons_succ, List.setIfInBounds_toArray, List.set_cons_zero, List.set_cons_succ]
        refine wpAnyH_take (i := 11) (v := undef) rfl (by kernel_rfl) (by kernel_rfl) (by kernel_rfl) (fun _ _ _ h => h) (Or.inr ⟨by rfl, rfl⟩) (by assumption) ?_
        try simp only [Act.put, List.getElem_toArray, List.getElem_cons_zero, List.getElem_cons_succ, List.setIfInBounds_toArray, List.set_cons_zero, List.set_cons_succ]
        refine wpAnyH_take (i := 12) (v := undef) rfl (by kernel_rfl) (by kernel_rfl) (by kernel_rfl) (fun _ _ _ h => h) (Or.inr ⟨by rfl, rfl⟩) (by assumption) ?_
        try simp only [Act.put, List.getElem_toArray, List.getElem_cons_zero, List.getElem_cons_succ, List.setIfInBounds_toArray, List.set_cons_zero, List.set_cons_succ]
        refine wpAnyH_take (i := 13) (v := undef) rfl (by kernel_rfl) (by kernel_rfl) (by kernel_rfl) (fun _ _ _ h => h) (Or.inr ⟨by rfl, rfl⟩) (by assumption) ?_
        try simp only [Act.put, List.getElem_toArray, List.getElem_cons_zero, List.getElem_cons_succ, List.setIfInBounds_toArray, List.set_cons_zero, List.set_cons_succ]
        refine wpAnyH_take (i := 14) (v := .bool false) rfl (by kernel_rfl) (by kernel_rfl) (by kernel_rfl) (fun _ _ _ h => h) (Or.inl ⟨by rfl, ?_⟩) (by assumption) ?_
        case refine_1 => intro W hSw; go_simp; try rfl
        try simp only [Act.put, List.getElem_toArray, List.getElem_cons_zero, List.getElem_cons_succ, List.setIfInBounds_toArray, List.set_cons_zero, List.set_cons_succ]
        refine wpAnyH_take (i := 15) (v := .bool false) rfl (by kernel_rfl) (by kernel_rfl) (by kernel_rfl) (fun _ _ _ h => h) (Or.inl ⟨by rfl, ?_⟩) (by assumption) ?_
        case refine_1 => intro W hSw; go_simp; try rfl
        try simp only [Act.put, List.getElem_toArray, List.getElem_cons_zero, List.getElem_cons_succ, List.setIfInBounds_toArray, List.set_cons_zero, List.set_cons_succ]
        refine wpAnyH_take (i := 16) (v := undef) rfl (by kernel_rfl) (by kernel_rfl) (by kernel_rfl) (fun _ _ _ h => h) (Or.inr ⟨by rfl, rfl⟩) (by assumption) ?_
        try simp only [Act.put, List.getElem_toArray, List.getElem_cons_zero, List.getElem_cons_succ, List.setIfInBounds_toArray, List.set_cons_zero, List.set_cons_succ]
        refine wpAnyH_take (i := 17) (v := undef) rfl (by kernel_rfl) (by kernel_rfl) (by kernel_rfl) (fun _ _ _ h => h) (Or.inr ⟨by rfl, rfl⟩) (by assumption) ?_
        try simp only [Act.put, List.getElem_toArray, List.getElem_cons_zero, List.getElem_cons_succ, List.setIfInBounds_toArray, List.set_cons_zero, List.set_cons_succ]
        refine wpAnyH_take (i := 18) (v := undef) rfl (by kernel_rfl) (by kernel_rfl) (by kernel_rfl) (fun _ _ _ h => h) (Or.inr ⟨by rfl, rfl⟩) (by assumption) ?_
        try simp only [Act.put, List.getElem_toArray, List.getElem_cons_zero, List.getElem_cons_succ, List.setIfInBounds_toArray, List.set_cons_zero, List.set_cons_succ]
        refine wpAnyH_take (i := 19) (v := undef) rfl (by kernel_rfl) (by kernel_rfl) (by kernel_rfl) (fun _ _ _ h => h) (Or.inr ⟨by rfl, rfl⟩) (by assumption) ?_
        try simp only [Act.put, List.getElem_toArray, List.getElem_cons_zero, List.getElem_cons_succ, List.setIfInBounds_toArray, List.set_cons_zero, List.set_cons_succ]
        refine wpAnyH_take (i := 20) (v := undef) rfl (by kernel_rfl) (by kernel_rfl) (by kernel_rfl) (fun _ _ _ h => h) (Or.inr ⟨by rfl, rfl⟩) (by assumption) ?_
        try simp only [Act.put, List.getElem_toArray, List.getElem_cons_zero, List.getElem_cons_succ, List.setIfInBounds_toArray, List.set_cons_zero, List.set_cons_succ]
        refine wpAnyH_take (i := 21) (v := undef) rfl (by kernel_rfl) (by kernel_rfl) (by kernel_rfl) (fun _ _ _ h => h) (Or.inr ⟨by rfl, rfl⟩) (by assumption) ?_
        try simp only [Act.put, List.getElem_toArray, List.getElem_cons_zero, List.getElem_cons_succ, List.setIfInBounds_toArray, List.set_cons_zero, List.set_cons_succ]
        refine wpAnyH_take (i := 22) (v := undef) rfl (by kernel_rfl) (by kernel_rfl) (by kernel_rfl) (fun _ _ _ h => h) (Or.inr ⟨by rfl, rfl⟩) (by assumption) ?_
        try simp only [Act.put, List.getElem_toArray, List.getElem_cons_zero, List.getElem_cons_succ, List.setIfInBounds_toArray, List.set_cons_zero, List.set_cons_succ]
        refine wpAnyH_take (i := 23) (v := undef) rfl (by kernel_rfl) (by kernel_rfl) (by kernel_rfl) (fun _ _ _ h => h) (Or.inr ⟨by rfl, rfl⟩) (by assumption) ?_
        try simp only [Act.put, List.getElem_toArray, List.getElem_cons_zero, List.getElem_cons_succ, List.setIfInBounds_toArray, List.set_cons_zero, List.set_cons_succ]
        refine wpAnyH_take (i := 24) (v := .bool false) rfl (by kernel_rfl) (by kernel_rfl) (by kernel_rfl) (fun _ _ _ h => h) (Or.inl ⟨by rfl, ?_⟩) (by assumption) ?_
        case refine_1 => intro W hSw; go_simp; try rfl
        try simp only [Act.put, List.getElem_toArray, List.getElem_cons_zero, List.getElem_cons_succ, List.setIfInBounds_toArray, List.set_cons_zero, List.set_cons_succ]
        refine wpAnyH_done (by kernel_rfl) ?_ _
        clear hHeld
        go_wp2_with fail
        refine ⟨HR.out lt HL2.out, ?_⟩
        simp [intOf]
        omega
      refine wpAnyH_take (i := 5) (v := .bool true) rfl (by kernel_rfl) (by kernel_rfl) (by kernel_rfl) (fun _ _ _ h => h) (Or.inl ⟨by rfl, ?_⟩) (by assumption) ?_
      case refine_1 => intro W hSw; go_simp; try rfl
      try simp only [Act.put, List.getElem_toArray, List.getElem_cons_zero, List.getElem_cons_succ, List.setIfInBounds_toArray, List.set_cons_zero, List.set_cons_succ]
      refine wpAnyH_take (i := 6) (v := .slice (some ⟨lb, lo, none⟩) n lc) rfl (by kernel_rfl) (by kernel_rfl) (by kernel_rfl) (fun _ _ _ h => h) (Or.inl ⟨by rfl, ?_⟩) (by assumption) ?_
      case refine_1 => intro W hSw; go_simp; try rfl
      try simp only [Act.put, List.getElem_toArray, List.getElem_cons_zero, List.getElem_cons_succ, List.setIfInBounds_toArray, List.set_cons_zero, List.set_cons_succ]
      refine wpAnyH_take (i := 7) (v := .int .i64 (j : Int)) rfl (by kernel_rfl) (by kernel_rfl) (by kernel_rfl) (fun _ _ _ h => h) (Or.inl ⟨by rfl, ?_⟩) (by assumption) ?_
      case refine_1 => intro W hSw; go_simp; try rfl
      try simp only [Act.put, List.getElem_toArray, List.getElem_cons_zero, List.getElem_cons_succ, List.setIfInBounds_toArray, List.set_cons_zero, List.set_cons_succ]
      refine wpAnyH_take (i := 8) (v := .pointer (some ⟨lb, lo + j * 4, none⟩)) rfl (by kernel_rfl) (by kernel_rfl) (by kernel_rfl) (fun _ _ _ h => h) (Or.inl ⟨by rfl, ?_⟩) (by assumption) ?_
      case refine_1 => intro W hSw; go_simp; try rfl
      try simp only [Act.put, List.getElem_toArray, List.getElem_cons_zero, List.getElem_cons_succ, List.setIfInBounds_toArray, List.set_cons_zero, List.set_cons_succ]
      refine wpAnyH_take (i := 9) (v := .pointer (some ⟨lb, lo + j * 4, none⟩)) rfl (by kernel_rfl) (by kernel_rfl) (by kernel_rfl) (fun _ _ _ h => h) (Or.inl ⟨by rfl, ?_⟩) (by assumption) ?_
      case refine_1 => intro W hSw; go_simp; try rfl
      try simp only [Act.put, List.getElem_toArray, List.getElem_cons_zero, List.getElem_cons_succ, List.setIfInBounds_toArray, List.set_cons_zero, List.set_cons_succ]
      refine wpAnyH_take (i := 10) (v := .int .i64 x.f) rfl (by kernel_rfl) (by kernel_rfl) (by kernel_rfl) (fun _ _ _ h => h) (Or.inl ⟨by rfl, ?_⟩) (by assumption) ?_
      case refine_1 => intro W hSw; have k1 : W.cell? ⟨lb, lo + j * 4, none⟩ = some (.int .i64 x.f) := HEC.out W hSw.1 0 (by decide); go_simp; try rfl
      try simp only [Act.put, List.getElem_toArray, List.getElem_cons_zero, List.getElem_cons_succ, List.setIfInBounds_toArray, List.set_cons_zero, List.set_cons_succ]
      refine wpAnyH_take (i := 11) (v := .pointer (some ⟨b5, 0, none⟩)) rfl (by kernel_rfl) (by kernel_rfl) (by kernel_rfl) (fun _ _ _ h => h) (Or.inl ⟨by rfl, ?_⟩) (by assumption) ?_
      case refine_1 => intro W hSw; go_simp; try rfl
      try simp only [Act.put, List.getElem_toArray, List.getElem_cons_zero, List.getElem_cons_succ, List.setIfInBounds_toArray, List.set_cons_zero, List.set_cons_succ]
      refine wpAnyH_take (i := 12) (v := .int .i64 e.f) rfl (by kernel_rfl) (by kernel_rfl) (by kernel_rfl) (fun _ _ _ h => h) (Or.inl ⟨by rfl, ?_⟩) (by assumption) ?_
      case refine_1 => intro W hSw; have k1 : W.cell? ⟨b5, 0, none⟩ = some (.int .i64 e.f) := hSw.2.cell 0; go_simp; try rfl
      try simp only [Act.put, List.getElem_toArray, List.getElem_cons_zero, List.getElem_cons_succ, List.setIfInBounds_toArray, List.set_cons_zero, List.set_cons_succ]
      refine wpAnyH_take (i := 13) (v := .bool fx) rfl (by kernel_rfl) (by kernel_rfl) (by kernel_rfl) (fun _ _ _ h => h) (Or.inl ⟨by rfl, ?_⟩) (by assumption) ?_
      case refine_1 => intro W hSw; have k1 := HFX.out; go_simp; try rfl
      try simp only [Act.put, List.getElem_toArray, List.getElem_cons_zero, List.getElem_cons_succ, List.setIfInBounds_toArray, List.set_cons_zero, List.set_cons_succ]
      cases fx
      case false =>
        have HL2 : Hid (lt = true ↔ Lo es i (j + 1) e) := HLJ.out.trans (by rw [HNX.out, HP.out]; simp)
        refine wpAnyH_take (i := 14) (v := .bool false) rfl (by kernel_rfl) (by kernel_rfl) (by kernel_rfl) (fun _ _ _ h => h) (Or.inl ⟨by rfl, ?_⟩) (by assumption) ?_
        case refine_1 => intro W hSw; go_simp; try rfl
        try simp only [Act.put, List.getElem_toArray, List.getElem_cons_zero, List.getElem_cons_succ, List.setIfInBounds_toArray, List.set_cons_zero, List.set_cons_succ]
        refine wpAnyH_take (i := 15) (v := .bool false) rfl (by kernel_rfl) (by kernel_rfl) (by kernel_rfl) (fun _ _ _ h => h) (Or.inl ⟨by rfl, ?_⟩) (by assumption) ?_
        case refine_1 => intro W hSw; go_simp; try rfl
        try simp only [Act.put, List.getElem_toArray, List.getElem_cons_zero, List.getElem_cons_succ, List.setIfInBounds_toArray, List.set_cons_zero, List.set_cons_succ]
        refine wpAnyH_take (i := 16) (v := undef) rfl (by kernel_rfl) (by kernel_rfl) (by kernel_rfl) (fun _ _ _ h => h) (Or.inr ⟨by rfl, rfl⟩) (by assumption) ?_
        try simp only [Act.put, List.getElem_toArray, List.getElem_cons_zero, List.getElem_cons_succ, List.setIfInBounds_toArray, List.set_cons_zero, List.set_cons_succ]
        refine wpAnyH_take (i := 17) (v := undef) rfl (by kernel_rfl) (by kernel_rfl) (by kernel_rfl) (fun _ _ _ h => h) (Or.inr ⟨by rfl, rfl⟩) (by assumption) ?_
        try simp only [Act.put, List.getElem_toArray, List.getElem_cons_zero, List.getElem_cons_succ, List.setIfInBounds_toArray, List.set_cons_zero, List.set_cons_succ]
        refine wpAnyH_take (i := 18) (v := undef) rfl (by kernel_rfl) (by kernel_rfl) (by kernel_rfl) (fun _ _ _ h => h) (Or.inr ⟨by rfl, rfl⟩) (by assumption) ?_
        try simp only [Act.put, List.getElem_toArray, List.getElem_cons_zero, List.getElem_cons_succ, List.setIfInBounds_toArray, List.set_cons_zero, List.set_cons_succ]
        refine wpAnyH_take (i := 19) (v := undef) rfl (by kernel_rfl) (by kernel_rfl) (by kernel_rfl) (fun _ _ _ h => h) (Or.inr ⟨by rfl, rfl⟩) (by assumption) ?_
        try simp only [Act.put, List.getElem_toArray, List.getElem_cons_zero, List.getElem_cons_succ, List.setIfInBounds_toArray, List.set_cons_zero, List.set_cons_succ]
        refine wpAnyH_take (i := 20) (v := undef) rfl (by kernel_rfl) (by kernel_rfl) (by kernel_rfl) (fun _ _ _ h => h) (Or.inr ⟨by rfl, rfl⟩) (by assumption) ?_
        try simp only [Act.put, List.getElem_toArray, List.getElem_cons_zero, List.getElem_cons_succ, List.setIfInBounds_toArray, List.set_cons_zero, List.set_cons_succ]
        refine wpAnyH_take (i := 21) (v := undef) rfl (by kernel_rfl) (by kernel_rfl) (by kernel_rfl) (fun _ _ _ h => h) (Or.inr ⟨by rfl, rfl⟩) (by assumption) ?_
        try simp only [Act.put, List.getElem_toArray, List.getElem_cons_zero, List.getElem_cons_succ, List.setIfInBounds_toArray, List.set_cons_zero, List.set_cons_succ]
        refine wpAnyH_take (i := 22) (v := undef) rfl (by kernel_rfl) (by kernel_rfl) (by kernel_rfl) (fun _ _ _ h => h) (Or.inr ⟨by rfl, rfl⟩) (by assumption) ?_
        try simp only [Act.put, List.getElem_toArray, List.getElem_cons_zero, List.getElem_cons_succ, List.setIfInBounds_toArray, List.set_cons_zero, List.set_cons_succ]
        refine wpAnyH_take (i := 23) (v := undef) rfl (by kernel_rfl) (by kernel_rfl) (by kernel_rfl) (fun _ _ _ h => h) (Or.inr ⟨by rfl, rfl⟩) (by assumption) ?_
        try simp only [Act.put, List.getElem_toArray, List.getElem_cons_zero, List.getElem_cons_succ, List.setIfInBounds_toArray, List.set_cons_zero, List.set_cons_succ]
        refine wpAnyH_take (i := 24) (v := .bool false) rfl (by kernel_rfl) (by kernel_rfl) (by kernel_rfl) (fun _ _ _ h => h) (Or.inl ⟨by rfl, ?_⟩) (by assumption) ?_
        case refine_1 => intro W hSw; go_simp; try rfl
        try simp only [Act.put, List.getElem_toArray, List.getElem_cons_zero, List.getElem_cons_succ, List.setIfInBounds_toArray, List.set_cons_zero, List.set_cons_succ]
        refine wpAnyH_done (by kernel_rfl) ?_ _
        clear hHeld
        go_wp2_with fail
        refine ⟨HR.out lt HL2.out, ?_⟩
        simp [intOf]
        omega
      refine wpAnyH_take (i := 14) (v := .bool true) rfl (by kernel_rfl) (by kernel_rfl) (by kernel_rfl) (fun _ _ _ h => h) (Or.inl ⟨by rfl, ?_⟩) (by assumption) ?_
      case refine_1 => intro W hSw; go_simp; try rfl
      try simp only [Act.put, List.getElem_toArray, List.getElem_cons_zero, List.getElem_cons_succ, List.setIfInBounds_toArray, List.set_cons_zero, List.set_cons_succ]
      refine wpAnyH_take (i := 15) (v := .bool true) rfl (by kernel_rfl) (by kernel_rfl) (by kernel_rfl) (fun _ _ _ h => h) (Or.inl ⟨by rfl, ?_⟩) (by assumption) ?_
      case refine_1 => intro W hSw; go_simp; try rfl
      try simp only [Act.put, List.getElem_toArray, List.getElem_cons_zero, List.getElem_cons_succ, List.setIfInBounds_toArray, List.set_cons_zero, List.set_cons_succ]
      refine wpAnyH_take (i := 16) (v := .slice (some ⟨lb, lo, none⟩) n lc) rfl (by kernel_rfl) (by kernel_rfl) (by kernel_rfl) (fun _ _ _ h => h) (Or.inl ⟨by rfl, ?_⟩) (by assumption) ?_
      case refine_1 => intro W hSw; go_simp; try rfl
      try simp only [Act.put, List.getElem_toArray, List.getElem_cons_zero, List.getElem_cons_succ, List.setIfInBounds_toArray, List.set_cons_zero, List.set_cons_succ]
      refine wpAnyH_take (i := 17) (v := .int .i64 (j : Int)) rfl (by kernel_rfl) (by kernel_rfl) (by kernel_rfl) (fun _ _ _ h => h) (Or.inl ⟨by rfl, ?_⟩) (by assumption) ?_
      case refine_1 => intro W hSw; go_simp; try rfl
      try simp only [Act.put, List.getElem_toArray, List.getElem_cons_zero, List.getElem_cons_succ, List.setIfInBounds_toArray, List.set_cons_zero, List.set_cons_succ]
      refine wpAnyH_take (i := 18) (v := .pointer (some ⟨lb, lo + j * 4, none⟩)) rfl (by kernel_rfl) (by kernel_rfl) (by kernel_rfl) (fun _ _ _ h => h) (Or.inl ⟨by rfl, ?_⟩) (by assumption) ?_
      case refine_1 => intro W hSw; go_simp; try rfl
      try simp only [Act.put, List.getElem_toArray, List.getElem_cons_zero, List.getElem_cons_succ, List.setIfInBounds_toArray, List.set_cons_zero, List.set_cons_succ]
      refine wpAnyH_take (i := 19) (v := .pointer (some ⟨lb, lo + j * 4 + 3, none⟩)) rfl (by kernel_rfl) (by kernel_rfl) (by kernel_rfl) (fun _ _ _ h => h) (Or.inl ⟨by rfl, ?_⟩) (by assumption) ?_
      case refine_1 => intro W hSw; go_simp; try rfl
      try simp only [Act.put, List.getElem_toArray, List.getElem_cons_zero, List.getElem_cons_succ, List.setIfInBounds_toArray, List.set_cons_zero, List.set_cons_succ]
      refine wpAnyH_take (i := 20) (v := .int .i64 x.l) rfl (by kernel_rfl) (by kernel_rfl) (by kernel_rfl) (fun _ _ _ h => h) (Or.inl ⟨by rfl, ?_⟩) (by assumption) ?_
      case refine_1 => intro W hSw; have k1 : W.cell? ⟨lb, lo + j * 4 + 3, none⟩ = some (.int .i64 x.l) := HEC.out W hSw.1 3 (by decide); go_simp; try rfl
      try simp only [Act.put, List.getElem_toArray, List.getElem_cons_zero, List.getElem_cons_succ, List.setIfInBounds_toArray, List.set_cons_zero, List.set_cons_succ]
      refine wpAnyH_take (i := 21) (v := .pointer (some ⟨b5, 3, none⟩)) rfl (by kernel_rfl) (by kernel_rfl) (by kernel_rfl) (fun _ _ _ h => h) (Or.inl ⟨by rfl, ?_⟩) (by assumption) ?_
      case refine_1 => intro W hSw; go_simp; try rfl
      try simp only [Act.put, List.getElem_toArray, List.getElem_cons_zero, List.getElem_cons_succ, List.setIfInBounds_toArray, List.set_cons_zero, List.set_cons_succ]
      refine wpAnyH_take (i := 22) (v := .int .i64 e.l) rfl (by kernel_rfl) (by kernel_rfl) (by kernel_rfl) (fun _ _ _ h => h) (Or.inl ⟨by rfl, ?_⟩) (by assumption) ?_
      case refine_1 => intro W hSw; have k1 : W.cell? ⟨b5, 3, none⟩ = some (.int .i64 e.l) := hSw.2.cell 3; go_simp; try rfl
      try simp only [Act.put, List.getElem_toArray, List.getElem_cons_zero, List.getElem_cons_succ, List.setIfInBounds_toArray, List.set_cons_zero, List.set_cons_succ]
      refine wpAnyH_take (i := 23) (v := .bool lx) rfl (by kernel_rfl) (by kernel_rfl) (by kernel_rfl) (fun _ _ _ h => h) (Or.inl ⟨by rfl, ?_⟩) (by assumption) ?_
      case refine_1 => intro W hSw; have k1 := HLX.out; go_simp; try rfl
      try simp only [Act.put, List.getElem_toArray, List.getElem_cons_zero, List.getElem_cons_succ, List.setIfInBounds_toArray, List.set_cons_zero, List.set_cons_succ]
      cases lx
      case false =>
        have HL2 : Hid (lt = true ↔ Lo es i (j + 1) e) := HLJ.out.trans (by rw [HNX.out, HP.out]; simp)
        refine wpAnyH_take (i := 24) (v := .bool false) rfl (by kernel_rfl) (by kernel_rfl) (by kernel_rfl) (fun _ _ _ h => h) (Or.inl ⟨by rfl, ?_⟩) (by assumption) ?_
        case refine_1 => intro W hSw; go_simp; try rfl
        try simp only [Act.put, List.getElem_toArray, List.getElem_cons_zero, List.getElem_cons_succ, List.setIfInBounds_toArray, List.set_cons_zero, List.set_cons_succ]
        refine wpAnyH_done (by kernel_rfl) ?_ _
        clear hHeld
        go_wp2_with fail
        refine ⟨HR.out lt HL2.out, ?_⟩
        simp [intOf]
        omega
      have HL2 : Hid (false = true ↔ Lo es i (j + 1) e) := by show _ ↔ _; rw [HNX.out, HP.out]; simp
      refine wpAnyH_take (i := 24) (v := .bool true) rfl (by kernel_rfl) (by kernel_rfl) (by kernel_rfl) (fun _ _ _ h => h) (Or.inl ⟨by rfl, ?_⟩) (by assumption) ?_
      case refine_1 => intro W hSw; go_simp; try rfl
      try simp only [Act.put, List.getElem_toArray, List.getElem_cons_zero, List.getElem_cons_succ, List.setIfInBounds_toArray, List.set_cons_zero, List.set_cons_succ]
      refine wpAnyH_done (by kernel_rfl) ?_ _
      clear hHeld
      go_wp2_with fail
      refine ⟨HR.out false HL2.out, ?_⟩
      simp [intOf]
      omega
end Go.Proofs.Ythhdpfgepjmgkaa.Dj
namespace Go.Proofs.Ythhdpfgepjmgkaa.Dj
open Go.ChangeShapes Go.WideShapes Go.ChangeAt Go.RowKit Go.Joins Go.Deep Go.Proofs.Ythhdpfgepjmgkaa.Ge
set_option linter.unusedVariables false
set_option linter.unusedSimpArgs false

/-- up to place i -/
structure Sx (al : List Ed) (i : Nat) (ss : List Ed) : Prop where
  so : ss.Pairwise eLt
  mem : ∀ e, e ∈ ss ↔ ∃ j, j < i ∧ al[j]? = some e ∧ St al e
theorem Sx.nil (al : List Ed) : Sx al 0 [] := ⟨List.Pairwise.nil, fun e => ⟨fun h => absurd h List.not_mem_nil, fun ⟨j, h, _⟩ => absurd h (Nat.not_lt_zero j)⟩⟩
theorem Sx.skip {al ss : List Ed} {i : Nat} {e : Ed} (h : Sx al i ss) (he : al[i]? = some e) (hn : ¬ St al e) : Sx al (i + 1) ss := ⟨h.so, fun x => (h.mem x).trans ⟨fun ⟨j, h1, h2⟩ => ⟨j, by omega, h2⟩, fun ⟨j, h1, h2, h3⟩ => ⟨j, by
  rcases Nat.lt_or_ge j i with c | c
  · exact c
  · have : j = i := by omega
    subst this
    rw [he] at h2
    cases h2
    exact absurd h3 hn, h2, h3⟩⟩⟩
theorem Sx.add {al ss : List Ed} {i : Nat} {e : Ed} (ho : al.Pairwise eLt) (h : Sx al i ss) (he : al[i]? = some e) (hs : St al e) : Sx al (i + 1) (ss ++ [e]) := by
  refine ⟨List.pairwise_append.2 ⟨h.so, List.pairwise_singleton _ _, fun x hx y hy => ?_⟩, fun x => ?_⟩
  · rw [List.mem_singleton] at hy
    subst hy
    obtain ⟨j, h1, h2, -⟩ := (h.mem x).1 hx
    obtain ⟨hj, rfl⟩ := List.getElem?_eq_some_iff.1 h2
    obtain ⟨hi, rfl⟩ := List.getElem?_eq_some_iff.1 he
    exact List.pairwise_iff_getElem.1 ho j i hj hi h1
  · rw [List.mem_append, List.mem_singleton, h.mem]
    constructor
    · rintro (⟨j, h1, h2⟩ | c)
      · exact ⟨j, by omega, h2⟩
      · subst c; exact ⟨i, by omega, he, hs⟩
    · rintro ⟨j, h1, h2, h3⟩
      rcases Nat.lt_or_ge j i with c | c
      · exact .inl ⟨j, c, h2, h3⟩
      · have : j = i := by omega
        subst this
        rw [he] at h2
        cases h2
        exact .inr rfl
theorem Sx.sw {al ss : List Ed} {i : Nat} (h : Sx al i ss) (hi : al.length ≤ i) : Sw al ss := ⟨h.so, fun e => (h.mem e).trans ⟨fun ⟨j, _, _, h⟩ => h, fun h => by
  obtain ⟨j, hj⟩ := List.mem_iff_getElem?.1 h.1
  exact ⟨j, by have := (List.getElem?_eq_some_iff.1 hj).1; omega, hj, h⟩⟩⟩
theorem Sx.len {al ss : List Ed} {i : Nat} (h : Sx al i ss) : ss.length ≤ al.length := by
  classical
  refine nodup_le _ _ ?_ ?_
  · rw [List.nodup_iff_pairwise_ne]
    exact h.so.imp (fun {a b} c d => by subst d; unfold eLt at c; omega)
  · intro e he
    obtain ⟨i, -, h1, -⟩ := (h.mem e).1 he
    exact List.mem_of_getElem? h1
def SgPost (w : World) (es : List Ed) (e : Ending) (w' : World) : Prop := ∃ (v : Value) (al ss : List Ed), e = .returned v ∧ OwnL EE w.heap.size w' v ss ∧ Aa es al ∧ Sw al ss ∧ ss.length ≤ es.length ∧ Below w.heap.size w w'
theorem ed_cell {w W : World} {lb lo : Nat} {es : List Ed} (h : Lst EE w (some ⟨lb, lo, none⟩) es) (hb : Below w.heap.size w W) {j : Nat} {x : Ed} (hx : es[j]? = some x) : ∀ q, q < 4 → W.cell? ⟨lb, lo + j * 4 + q, none⟩ = (edL x)[q]? := fun q hq => ed_cells h hb hx q hq
set_option maxRecDepth 100000 in
set_option maxHeartbeats 64000000 in
theorem standing_any (la : Option Addr) (n lc : Nat) (es : List Ed) (w : World) (hn : es.length = n) (hb : n < 100000000) (h : Lst EE w la es) : Calls Try.prog 15 #[.slice la n lc] w (SgPost w es) := by
  have HX : Hid (Lst EE w la es ∧ es.length = n ∧ n < 100000000) := ⟨h, hn, hb⟩
  clear h hn hb
  go_enter Try.func15, Try.ntmps15
  go_wp2_with fail
  refine (edges_any la n lc es w HX.out.2.1 HX.out.2.2 HX.out.1).mono ?_
  rintro e0 w1 ⟨v, al, rfl, how, haa, hb1⟩
  obtain ⟨aa, ac, rfl⟩ := own_sl how
  obtain ⟨m, hm⟩ : ∃ y, al.length = y := ⟨_, rfl⟩
  have HA : Hid (Lst EE w1 aa al ∧ Aa es al ∧ al.length = m ∧ Below w.heap.size w w1 ∧ m ≤ n) := ⟨how.lst.1, haa, hm, hb1, by have := haa.len; have := HX.out.2.1; omega⟩
  rw [hm]
  have hm0 : (m : Int) < 100000000 := by have := HA.out.2.2.2.2; have := HX.out.2.2; omega
  clear how haa hb1 hm
  go_wp2_with fail
  go_loopw [13, 4, 6, 8] (fun iv ov _ _ wr => ∃ (i : Nat) (ss : List Ed), i ≤ m ∧ iv = .int .i64 (i : Int) ∧ Below w1.heap.size w1 wr ∧ OwnL EE w1.heap.size wr ov ss ∧ Sx al i ss) (fun iv _ _ _ _ => m - (intOf iv).toNat)
  case atStart => exact ⟨0, [], Nat.zero_le _, rfl, Below.refl _ _, OwnL.nil _ _ _, Sx.nil al⟩
  case round =>
    obtain ⟨i, ss, hin, rfl, hbl, how, hsx⟩ := hrel
    obtain ⟨wz, hwz⟩ : ∃ y, wr = y := ⟨_, rfl⟩
    rw [hwz] at hbl how ⊢
    obtain ⟨oa, oc, rfl⟩ := own_sl how
    obtain ⟨k, hk⟩ : ∃ y, ss.length = y := ⟨_, rfl⟩
    rw [hk] at how ⊢
    have HI : Hid (Below w1.heap.size w1 wz ∧ OwnL EE w1.heap.size wz (.slice oa k oc) ss ∧ Sx al i ss ∧ ss.length = k ∧ k ≤ m) := ⟨hbl, how, hsx, hk, by have := hsx.len; have := HA.out.2.2.1; omega⟩
    have hi0 : (i : Int) < 100000000 := by omega
    have hi2 : (0 : Int) ≤ (i : Int) := by omega
    clear hbl how hsx hk hwz
    by_cases hlt : i < m
    case neg =>
      have hii : ¬ (i : Int) < (m : Int) := by omega
      have HE : Hid (SgPost w es (.returned (.slice oa k oc)) wz) := ⟨_, al, ss, rfl, HI.out.2.1.mono HA.out.2.2.2.1.size, HA.out.2.1, HI.out.2.2.1.sw (by have := HA.out.2.2.1; omega), by have := HI.out; have := HA.out; have := HX.out; omega, HA.out.2.2.2.1.trans (HI.out.1.mono HA.out.2.2.2.1.size)⟩
      go_wp2_with fail
      go_ret
      exact HE.out
    have hii : (i : Int) < (m : Int) := by omega
    obtain ⟨e, he⟩ : ∃ y, al[i]? = some y := ⟨al[i]'(by have := HA.out.2.2.1; omega), List.getElem?_eq_getElem _⟩
    have HEi : Hid (al[i]? = some e) := he
    obtain ⟨lb, lo, rfl, -, -⟩ := HA.out.1.cells i (by have := HA.out.2.2.1; omega)
    have HCE : Hid (∀ q, q < 4 → wz.cell? ⟨lb, lo + i * 4 + q, none⟩ = (edL e)[q]?) := ed_cell HA.out.1 HI.out.1 HEi.out
    clear he
    go_wp2_with (first | (refine list_sat EdK rfl _ rfl (b := lb) (k := lo + i * 4) (cs := edL e) rfl HCE.out rfl ?_) | (refine list_newl EdK _ z_ed rfl rfl ?_))
    intro b6 w5 hb5 hs5 hbl5
    have HB5 : Hid (wz.heap.size ≤ b6 ∧ Below wz.heap.size wz w5) := ⟨by rw [hb5.out]; exact Nat.le_refl _, hbl5.out⟩
    have HS5 : Hid (SB EdK b6 (edL ⟨0, 0, 0, 0⟩) w5) := hs5.out
    clear hb5 hs5 hbl5 HCE
    go_wp2_with (refine list_sstore EdK rfl _ _ rfl (b := b6) (cs := edL ⟨0, 0, 0, 0⟩) (cs' := edL e) rfl rfl HS5.out rfl rfl rfl ?_)
    intro w6 hs6 hk6
    have HS6 : Hid (SB EdK b6 (edL e) w6) := hs6.out
    have HB6 : Hid (Below wz.heap.size wz w6) := HB5.out.2.trans (hk6.out.below HB5.out.1)
    clear hs6 hk6 HS5 HB5
    go_wp2_with fail
    go_loopw [19, 8, 4] (fun jv _ ov wr => ∃ (j : Nat), j ≤ m ∧ jv = .int .i64 (j : Int) ∧ ov = .slice oa k oc ∧ Below wz.heap.size wz wr ∧ SB EdK b6 (edL e) wr ∧ ∀ q x, q < j → al[q]? = some x → ¬ (x.f = e.t ∧ x.t = e.f)) (fun jv _ _ _ => m - (intOf jv).toNat)
    case atStart => exact ⟨0, Nat.zero_le _, rfl, rfl, HB6.out, HS6.out, fun q x h => absurd h (Nat.not_lt_zero q)⟩
    case round =>
      obtain ⟨j, hjn, rfl, rfl, hbl, hsb, hno⟩ := hrel
      obtain ⟨wy, hwy⟩ : ∃ y, wr = y := ⟨_, rfl⟩
      rw [hwy] at hbl hsb ⊢
      have HJ : Hid (Below wz.heap.size wz wy ∧ SB EdK b6 (edL e) wy ∧ ∀ q x, q < j → al[q]? = some x → ¬ (x.f = e.t ∧ x.t = e.f)) := ⟨hbl, hsb, hno⟩
      have hj0 : (j : Int) < 100000000 := by omega
      have hj2 : (0 : Int) ≤ (j : Int) := by omega
      clear hbl hsb hno hwy HS6 HB6
      by_cases hlt2 : j < m
      case neg =>
        have hjj : ¬ (j : Int) < (m : Int) := by omega
        have HN : Hid (¬ St al e) := fun c => by
          obtain ⟨b, hb, h1⟩ := (st_back (List.mem_of_getElem? HEi.out)).1 c
          obtain ⟨q, hq⟩ := List.mem_iff_getElem?.1 hb
          exact HJ.out.2.2 q b (by have h2 := (List.getElem?_eq_some_iff.1 hq).1; have := HA.out.2.2.1; omega) hq h1
        have HG : Hid (∃ (i2 : Nat) (ss2 : List Ed), i2 ≤ m ∧ Value.int .i64 (↑i + 1) = .int .i64 (i2 : Int) ∧ Below w1.heap.size w1 wy ∧ OwnL EE w1.heap.size wy (.slice oa k oc) ss2 ∧ Sx al i2 ss2) := ⟨i + 1, ss, by omega, by simp, HI.out.1.trans (HJ.out.1.mono HI.out.1.size), HI.out.2.1.bel HJ.out.1, HI.out.2.2.1.skip HEi.out HN.out⟩
        go_wp2_with fail
        refine ⟨HG.out, ?_⟩
        simp [intOf]
        omega
      have hjj : (j : Int) < (m : Int) := by omega
      obtain ⟨x, hx⟩ : ∃ y, al[j]? = some y := ⟨al[j]'(by have := HA.out.2.2.1; omega), List.getElem?_eq_getElem _⟩
      have HXJ : Hid (al[j]? = some x) := hx
      have HCX : Hid (∀ q, q < 4 → wy.cell? ⟨lb, lo + j * 4 + q, none⟩ = (edL x)[q]?) := ed_cell HA.out.1 (HI.out.1.trans (HJ.out.1.mono HI.out.1.size)) HXJ.out
      clear hx
      go_wp2_with (first | (refine list_sat EdK rfl _ rfl (b := lb) (k := lo + j * 4) (cs := edL x) rfl HCX.out rfl ?_) | (refine list_newl EdK _ z_ed rfl rfl ?_))
      intro b8 w7 hb7 hs7 hbl7
      have HB7 : Hid (wy.heap.size ≤ b8 ∧ Below wy.heap.size wy w7) := ⟨by rw [hb7.out]; exact Nat.le_refl _, hbl7.out⟩
      have HS7 : Hid (SB EdK b8 (edL ⟨0, 0, 0, 0⟩) w7) := hs7.out
      clear hb7 hs7 hbl7 HCX
      go_wp2_with (refine list_sstore EdK rfl _ _ rfl (b := b8) (cs := edL ⟨0, 0, 0, 0⟩) (cs' := edL x) rfl rfl HS7.out rfl rfl rfl ?_)
      intro w8 hs8 hk8
      have HB8 : Hid (Below wz.heap.size wz w8) := HJ.out.1.trans ((HB7.out.2.trans (hk8.out.below HB7.out.1)).mono HJ.out.1.size)
      have HS8 : Hid (SB EdK b6 (edL e) w8) := HJ.out.2.1.blk ((HB7.out.2.trans (hk8.out.below HB7.out.1)).block b6 HJ.out.2.1.lt)
      have c80 : w8.cell? ⟨b8, 0, none⟩ = some (.int .i64 x.f) := hs8.out.cell 0
      have c81 : w8.cell? ⟨b8, 1, none⟩ = some (.int .i64 x.t) := hs8.out.cell 1
      have c60 : w8.cell? ⟨b6, 0, none⟩ = some (.int .i64 e.f) := HS8.out.cell 0
      have c61 : w8.cell? ⟨b6, 1, none⟩ = some (.int .i64 e.t) := HS8.out.cell 1
      have HR : Hid (¬ (x.f = e.t ∧ x.t = e.f) → (∃ (j2 : Nat), j2 ≤ m ∧ Value.int .i64 (↑j + 1) = .int .i64 (j2 : Int) ∧ True ∧ Below wz.heap.size wz w8 ∧ SB EdK b6 (edL e) w8 ∧ ∀ q x, q < j2 → al[q]? = some x → ¬ (x.f = e.t ∧ x.t = e.f))) := fun hn => ⟨j + 1, by omega, by simp, trivial, HB8.out, HS8.out, fun q y h1 h2 => by
        by_cases c : q = j
        · subst c
          rw [HXJ.out] at h2
          cases h2
          exact hn
        · exact HJ.out.2.2 q y (by omega) h2⟩
      clear hs8 hk8 HS7 HB7 HJ
      by_cases h1 : x.f = e.t
      case neg =>
        have hq1 : (x.f == e.t) = false := beq_false_of_ne h1
        have HN : Hid (¬ (x.f = e.t ∧ x.t = e.f)) := fun c => h1 c.1
        clear h1
        go_wp2_with fail
        refine ⟨(by obtain ⟨j2, a1, a2, -, a3⟩ := HR.out HN.out; exact ⟨j2, a1, a2, rfl, a3⟩), ?_⟩
        simp [intOf]
        omega
      have H1 : Hid (x.f = e.t) := h1
      have hq1 : (x.f == e.t) = true := by simp [h1]
      clear h1
      by_cases h2 : x.t = e.f
      case neg =>
        have hq2 : (x.t == e.f) = false := beq_false_of_ne h2
        have HN : Hid (¬ (x.f = e.t ∧ x.t = e.f)) := fun c => h2 c.2
        clear h2
        go_wp2_with fail
        refine ⟨(by obtain ⟨j2, a1, a2, -, a3⟩ := HR.out HN.out; exact ⟨j2, a1, a2, rfl, a3⟩), ?_⟩
        simp [intOf]
        omega
      have HST : Hid (St al e) := (st_back (List.mem_of_getElem? HEi.out)).2 ⟨x, List.mem_of_getElem? HXJ.out, H1.out, h2⟩
      have hq2 : (x.t == e.f) = true := by simp [h2]
      clear h2 HR
      go_wp2_with (first | (refine list_sload EdK rfl _ rfl (b := b6) (cs := edL e) rfl HS8.out rfl ?_) | (refine list_ebuild rfl _ rfl (m := e) rfl ?_))
      intro b9 w9 hb9 hs9 hbl9
      have HB9 : Hid (Below wz.heap.size wz w9) := HB8.out.trans (hbl9.out.mono HB8.out.size)
      have HL9 : Hid (Lst EE w9 (some ⟨b9, 0, none⟩) [e]) := hs9.out
      have HO9 : Hid (OwnL EE w1.heap.size w9 (.slice oa k oc) ss) := HI.out.2.1.bel HB9.out
      clear hb9 hs9 hbl9 c80 c81 c60 c61 hq1 hq2
      go_wp2_with (at_builtin; refine list_appL EE rfl _ _ 22 rfl rfl w1.heap.size (.slice oa k oc) ss [e] (some ⟨b9, 0, none⟩) 1 1 w9 (by have := HI.out; have := HA.out; have := HX.out; omega) rfl HO9.out rfl HL9.out (fun h => by cases h) rfl (Nat.le_trans HI.out.1.size HB9.out.size) ?_)
      intro v10 w10 ho hg ha
      have HG : Hid (∃ (i2 : Nat) (ss2 : List Ed), i2 ≤ m ∧ Value.int .i64 (↑i + 1) = .int .i64 (i2 : Int) ∧ Below w1.heap.size w1 w10 ∧ OwnL EE w1.heap.size w10 v10 ss2 ∧ Sx al i2 ss2) := ⟨i + 1, ss ++ [e], by omega, by simp, (HI.out.1.trans (HB9.out.mono HI.out.1.size)).trans ((Below.refl _ w9).grown hg.out (Nat.le_trans HI.out.1.size HB9.out.size) (fun g e => (HO9.out.row.lt g e).1)), ho.out, HI.out.2.2.1.add HA.out.2.1.so HEi.out HST.out⟩
      obtain ⟨a10, c10, rfl⟩ := own_sl ho.out
      clear ho hg ha HO9 HL9
      go_wp2_with fail
      refine ⟨HG.out, ?_⟩
      simp [intOf]
      omega
end Go.Proofs.Ythhdpfgepjmgkaa.Dj
