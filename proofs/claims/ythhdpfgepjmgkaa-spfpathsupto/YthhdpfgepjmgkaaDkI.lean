/- spfBack, spfStands. -/
import Derived.Test.YthhdpfgepjmgkaaDkH
namespace Go.Proofs.Ythhdpfgepjmgkaa.Dj
open Go.ChangeShapes Go.WideShapes Go.ChangeAt Go.RowKit Go.Joins Go.Deep Go.Proofs.Ythhdpfgepjmgkaa.Ge
set_option linter.unusedVariables false
set_option linter.unusedSimpArgs false

/-- a whole struct is loaded under a guard that holds -/
theorem list_gload {ops : Array Oper} {rest : List Oper} {o : Oper} {ac : Act} {Q : Exit → Act → World → Prop} {W : World} (T : Sk) (hw : Region.wanted o (yielded ops ac.tmps) = true) (x : Operand) (ho : o.op = .load T.t x) {b : Nat} {cs : List Value} (hx : ac.eval x = .pointer (some ⟨b, 0, none⟩)) (h : SB T b cs W) (hl : cs.length = T.k)
    (k : wpList Try.prog ops Q rest (ac.put o.dst (.agg cs.toArray)) W) : wpList Try.prog ops Q (o :: rest) ac W :=
  wpList_step fun K hK => by
    rw [if_pos hw]
    unfold Oper.wp
    rw [sload_run T x ho hx h hl]
    exact hK _ _ k
set_option maxRecDepth 100000 in
set_option maxHeartbeats 32000000 in
theorem back_any (la : Option Addr) (n lc : Nat) (es : List Ed) (e : Ed) (w : World) (hn : es.length = n) (hb : n < 1000000000) (h : Lst EE w la es) : Calls Try.prog 22 #[.slice la n lc, .agg (edL e).toArray] w (BpPost w (Bk es e)) := by
  have HX : Hid (Lst EE w la es ∧ es.length = n ∧ n < 1000000000) := ⟨h, hn, hb⟩
  have hn0 : (n : Int) < 1000000000 := by omega
  clear h hn hb
  go_enter Try.func22, Try.ntmps22
  go_wp2_with (refine list_boxl EdK rfl _ rfl (cs := edL e) rfl ?_)
  intro b3 w1 hb1 hs1 hbl1
  have HB1 : Hid (Below w.heap.size w w1 ∧ SB EdK b3 (edL e) w1) := ⟨hbl1.out, hs1.out⟩
  clear hb1 hs1 hbl1
  go_wp2_with fail
  go_loopw [8, 5] (fun jv _ wr => ∃ (j : Nat), j ≤ n ∧ jv = .int .i64 (j : Int) ∧ Below w1.heap.size w1 wr ∧ ∀ q x, q < j → es[q]? = some x → ¬ (x.f = e.t ∧ x.t = e.f ∧ Ct es q)) (fun jv _ _ => n - (intOf jv).toNat)
  case atStart => exact ⟨0, Nat.zero_le _, rfl, Below.refl _ _, fun q x h => by omega⟩
  case round =>
    obtain ⟨j, hjn, rfl, hbl, hno⟩ := hrel
    obtain ⟨wz, hwz⟩ : ∃ y, wr = y := ⟨_, rfl⟩
    rw [hwz] at hbl ⊢
    have HI : Hid (Below w1.heap.size w1 wz ∧ ∀ q x, q < j → es[q]? = some x → ¬ (x.f = e.t ∧ x.t = e.f ∧ Ct es q)) := ⟨hbl, hno⟩
    have HUP : Hid (∀ W, Below w1.heap.size w1 W → Below w.heap.size w W) := fun W h => HB1.out.1.trans (h.mono HB1.out.1.size)
    have hj0 : (j : Int) < 1000000000 := by omega
    have hj2 : (0 : Int) ≤ (j : Int) := by omega
    clear hbl hno hwz
    by_cases hlt : j < n
    case neg =>
      have hjj : ¬ (j : Int) < (n : Int) := by omega
      have HE : Hid (BpPost w (Bk es e) (.returned (.bool false)) wz) := ⟨false, rfl, ⟨fun c => (by cases c), fun ⟨q, x, h1, h2, h3, h4⟩ => absurd ⟨h2, h3, h4⟩ (HI.out.2 q x (by have h5 := (List.getElem?_eq_some_iff.1 h1).1; have h6 := HX.out.2.1; omega) h1)⟩, HUP.out wz HI.out.1⟩
      go_wp2_with fail
      go_ret
      exact HE.out
    have hjj : (j : Int) < (n : Int) := by omega
    obtain ⟨x, hx⟩ : ∃ y, es[j]? = some y := ⟨es[j]'(by have := HX.out.2.1; omega), List.getElem?_eq_getElem _⟩
    have HEj : Hid (es[j]? = some x) := hx
    obtain ⟨lb, lo, rfl, -, -⟩ := HX.out.1.cells j (by have := HX.out.2.1; omega)
    clear hx
    go_upto_region 4 with fail
    obtain ⟨wd, hwd⟩ : ∃ y, wz.drew = y := ⟨_, rfl⟩
    have HWD : Hid (wz.drew = wd) := hwd
    have HBD : Hid (Below w1.heap.size w1 wd) := by rw [← hwd]; exact HI.out.1.trans ((drew_bel wz).mono HI.out.1.size)
    clear hwd
    refine wp_region_held_drew (S := fun W => Below w1.heap.size w1 W) (by kernel_rfl) (by rw [HWD.out]; exact HBD.out) (fun hHeld => ?_)
    rw [HWD.out] at hHeld ⊢
    obtain ⟨fx, hfx⟩ : ∃ y, (x.f == e.t) = y := ⟨_, rfl⟩
    have HFX : Hid ((x.f == e.t) = fx) := hfx
    obtain ⟨tx, htx⟩ : ∃ y, (x.t == e.f) = y := ⟨_, rfl⟩
    have HTX : Hid ((x.t == e.f) = tx) := htx
    clear hfx htx
    have HG : Hid (∀ W, Below w1.heap.size w1 W → ¬ (fx = true ∧ tx = true ∧ Ct es j) → (∃ (j2 : Nat), j2 ≤ n ∧ Value.int .i64 (↑j + 1) = .int .i64 (j2 : Int) ∧ Below w1.heap.size w1 W ∧ ∀ q x, q < j2 → es[q]? = some x → ¬ (x.f = e.t ∧ x.t = e.f ∧ Ct es q))) := fun W hW hno => ⟨j + 1, by omega, by simp, hW, fun q y h2 h3 => by
      by_cases c : q = j
      · subst c
        rw [HEj.out] at h3
        cases h3
        rintro ⟨k1, k2, k3⟩
        exact hno ⟨by rw [← HFX.out]; simp [k1], by rw [← HTX.out]; simp [k2], k3⟩
      · exact HI.out.2 q y (by omega) h3⟩
    have HT : Hid (∀ W, Below w1.heap.size w1 W → fx = true ∧ tx = true ∧ Ct es j → BpPost w (Bk es e) (.returned (.bool true)) W) := fun W hW ⟨k1, k2, k3⟩ => ⟨true, rfl, ⟨fun _ => ⟨j, x, HEj.out, by have h4 := HFX.out.trans k1; simpa using h4, by have h4 := HTX.out.trans k2; simpa using h4, k3⟩, fun _ => rfl⟩, HUP.out W hW⟩
    refine wpAnyH_take (i := 0) (v := .slice (some ⟨lb, lo, none⟩) n lc) rfl (by kernel_rfl) (by kernel_rfl) (by kernel_rfl) (fun _ _ _ h => h) (Or.inl ⟨by rfl, ?_⟩) (by assumption) ?_
    case refine_1 => intro W hSw; go_simp; try rfl
    try simp only [Act.put, List.getElem_toArray, List.getElem_cons_zero, List.getElem_cons_succ, List.setIfInBounds_toArray, List.set_cons_zero, List.set_cons_succ]
    refine wpAnyH_take (i := 1) (v := .int .i64 (j : Int)) rfl (by kernel_rfl) (by kernel_rfl) (by kernel_rfl) (fun _ _ _ h => h) (Or.inl ⟨by rfl, ?_⟩) (by assumption) ?_
    case refine_1 => intro W hSw; go_simp; try rfl
    try simp only [Act.put, List.getElem_toArray, List.getElem_cons_zero, List.getElem_cons_succ, List.setIfInBounds_toArray, List.set_cons_zero, List.set_cons_succ]
    refine wpAnyH_take (i := 2) (v := .pointer (some ⟨lb, lo + j * 4, none⟩)) rfl (by kernel_rfl) (by kernel_rfl) (by kernel_rfl) (fun _ _ _ h => h) (Or.inl ⟨by rfl, ?_⟩) (by assumption) ?_
    case refine_1 => intro W hSw; go_simp; try rfl
    try simp only [Act.put, List.getElem_toArray, List.getElem_cons_zero, List.getElem_cons_succ, List.setIfInBounds_toArray, List.set_cons_zero, List.set_cons_succ]
    refine wpAnyH_take (i := 3) (v := .pointer (some ⟨lb, lo + j * 4, none⟩)) rfl (by kernel_rfl) (by kernel_rfl) (by kernel_rfl) (fun _ _ _ h => h) (Or.inl ⟨by rfl, ?_⟩) (by assumption) ?_
    case refine_1 => intro W hSw; go_simp; try rfl
    try simp only [Act.put, List.getElem_toArray, List.getElem_cons_zero, List.getElem_cons_succ, List.setIfInBounds_toArray, List.set_cons_zero, List.set_cons_succ]
    refine wpAnyH_take (i := 4) (v := .int .i64 x.f) rfl (by kernel_rfl) (by kernel_rfl) (by kernel_rfl) (fun _ _ _ h => h) (Or.inl ⟨by rfl, ?_⟩) (by assumption) ?_
    case refine_1 => intro W hSw; have k1 : W.cell? ⟨lb, lo + j * 4, none⟩ = some (.int .i64 x.f) := ed_cells HX.out.1 (HUP.out W hSw) HEj.out 0 (by decide); go_simp; try rfl
    try simp only [Act.put, List.getElem_toArray, List.getElem_cons_zero, List.getElem_cons_succ, List.setIfInBounds_toArray, List.set_cons_zero, List.set_cons_succ]
    refine wpAnyH_take (i := 5) (v := .pointer (some ⟨b3, 1, none⟩)) rfl (by kernel_rfl) (by kernel_rfl) (by kernel_rfl) (fun _ _ _ h => h) (Or.inl ⟨by rfl, ?_⟩) (by assumption) ?_
    case refine_1 => intro W hSw; go_simp; try rfl
    try simp only [Act.put, List.getElem_toArray, List.getElem_cons_zero, List.getElem_cons_succ, List.setIfInBounds_toArray, List.set_cons_zero, List.set_cons_succ]
    refine wpAnyH_take (i := 6) (v := .int .i64 e.t) rfl (by kernel_rfl) (by kernel_rfl) (by kernel_rfl) (fun _ _ _ h => h) (Or.inl ⟨by rfl, ?_⟩) (by assumption) ?_
    case refine_1 => intro W hSw; have k1 : W.cell? ⟨b3, 1, none⟩ = some (.int .i64 e.t) := (HB1.out.2.blk (hSw.block b3 HB1.out.2.lt)).cell 1; go_simp; try rfl
    try simp only [Act.put, List.getElem_toArray, List.getElem_cons_zero, List.getElem_cons_succ, List.setIfInBounds_toArray, List.set_cons_zero, List.set_cons_succ]
    refine wpAnyH_take (i := 7) (v := .bool fx) rfl (by kernel_rfl) (by kernel_rfl) (by kernel_rfl) (fun _ _ _ h => h) (Or.inl ⟨by rfl, ?_⟩) (by assumption) ?_
    case refine_1 => intro W hSw; go_simp; all_goals first | exact HFX.out | (simpa using HFX.out) | rfl
    try simp only [Act.put, List.getElem_toArray, List.getElem_cons_zero, List.getElem_cons_succ, List.setIfInBounds_toArray, List.set_cons_zero, List.set_cons_succ]
    refine wpAnyH_take (i := 8) (v := .bool fx) rfl (by kernel_rfl) (by kernel_rfl) (by kernel_rfl) (fun _ _ _ h => h) (Or.inl ⟨by rfl, ?_⟩) (by assumption) ?_
    case refine_1 => intro W hSw; go_simp; try rfl
    try simp only [Act.put, List.getElem_toArray, List.getElem_cons_zero, List.getElem_cons_succ, List.setIfInBounds_toArray, List.set_cons_zero, List.set_cons_succ]
    cases fx
    case false =>
      refine wpAnyH_take (i := 9) (v := undef) rfl (by kernel_rfl) (by kernel_rfl) (by kernel_rfl) (fun _ _ _ h => h) (Or.inr ⟨by rfl, rfl⟩) (by assumption) ?_
      try simp only [Act.put, List.getElem_toArray, List.getElem_cons_zero, List.getElem_cons_succ, List.setIfInBounds_toArray, List.set_cons_zero, List.set_cons_succ]
      refine wpAnyH_take (i := 10) (v := undef) rfl (by kernel_rfl) (by kernel_rfl) (by kernel_rfl) (fun _ _ _ h => h) (Or.inr ⟨by rfl, rfl⟩) (by assumption) ?_
      try simp only [Act.put, List.getElem_toArray, List.getElem_cons_zero, List.getElem_cons_succ, List.setIfInBounds_toArray, List.set_cons_zero, List.set_cons_succ]
      refine wpAnyH_take (i := 11) (v := undef) rfl (by kernel_rfl) (by kernel_rfl) (by kernel_rfl) (fun _ _ _ h => h) (Or.inr ⟨by rfl, rfl⟩) (by assumption) ?_
      try simp only [Act.put, List.getElem_toArray, List.getElem_cons_zero, List.getElem_cons_succ, List.setIfInBounds_toArray, List.set_cons_zero, List.set_cons_succ]
      refine wpAnyH_take (i := 12) (v := undef) rfl (by kernel_rfl) (by kernel_rfl) (by kernel_rfl) (fun _ _ _ h => h) (Or.inr ⟨by rfl, rfl⟩) (by assumption) ?_
      try simp only [Act.put, List.getElem_toArray, List.getElem_cons_zero, List.getElem_cons_succ, List.setIfInBounds_toArray, List.set_cons_zero, List.set_cons_succ]
      refine wpAnyH_take (i := 13) (v := undef) rfl (by kernel_rfl) (by kernel_rfl) (by kernel_rfl) (fun _ _ _ h => h) (Or.inr ⟨by rfl, rfl⟩) (by assumption) ?_
      try simp only [Act.put, List.getElem_toArray, List.getElem_cons_zero, List.getElem_cons_succ, List.setIfInBounds_toArray, List.set_cons_zero, List.set_cons_succ]
      refine wpAnyH_take (i := 14) (v := undef) rfl (by kernel_rfl) (by kernel_rfl) (by kernel_rfl) (fun _ _ _ h => h) (Or.inr ⟨by rfl, rfl⟩) (by assumption) ?_
      try simp only [Act.put, List.getElem_toArray, List.getElem_cons_zero, List.getElem_cons_succ, List.setIfInBounds_toArray, List.set_cons_zero, List.set_cons_succ]
      refine wpAnyH_take (i := 15) (v := undef) rfl (by kernel_rfl) (by kernel_rfl) (by kernel_rfl) (fun _ _ _ h => h) (Or.inr ⟨by rfl, rfl⟩) (by assumption) ?_
      try simp only [Act.put, List.getElem_toArray, List.getElem_cons_zero, List.getElem_cons_succ, List.setIfInBounds_toArray, List.set_cons_zero, List.set_cons_succ]
      refine wpAnyH_take (i := 16) (v := undef) rfl (by kernel_rfl) (by kernel_rfl) (by kernel_rfl) (fun _ _ _ h => h) (Or.inr ⟨by rfl, rfl⟩) (by assumption) ?_
      try simp only [Act.put, List.getElem_toArray, List.getElem_cons_zero, List.getElem_cons_succ, List.setIfInBounds_toArray, List.set_cons_zero, List.set_cons_succ]
      refine wpAnyH_take (i := 17) (v := .bool false) rfl (by kernel_rfl) (by kernel_rfl) (by kernel_rfl) (fun _ _ _ h => h) (Or.inl ⟨by rfl, ?_⟩) (by assumption) ?_
      case refine_1 => intro W hSw; go_simp; try rfl
      try simp only [Act.put, List.getElem_toArray, List.getElem_cons_zero, List.getElem_cons_succ, List.setIfInBounds_toArray, List.set_cons_zero, List.set_cons_succ]
      refine wpAnyH_take (i := 18) (v := .bool false) rfl (by kernel_rfl) (by kernel_rfl) (by kernel_rfl) (fun _ _ _ h => h) (Or.inl ⟨by rfl, ?_⟩) (by assumption) ?_
      case refine_1 => intro W hSw; go_simp; try rfl
      try simp only [Act.put, List.getElem_toArray, List.getElem_cons_zero, List.getElem_cons_succ, List.setIfInBounds_toArray, List.set_cons_zero, List.set_cons_succ]
      refine wpAnyH_take (i := 19) (v := undef) rfl (by kernel_rfl) (by kernel_rfl) (by kernel_rfl) (fun _ _ _ h => h) (Or.inr ⟨by rfl, rfl⟩) (by assumption) ?_
      try simp only [Act.put, List.getElem_toArray, List.getElem_cons_zero, List.getElem_cons_succ, List.setIfInBounds_toArray, List.set_cons_zero, List.set_cons_succ]
      refine wpAnyH_take (i := 20) (v := undef) rfl (by kernel_rfl) (by kernel_rfl) (by kernel_rfl) (fun _ _ _ h => h) (Or.inr ⟨by rfl, rfl⟩) (by assumption) ?_
      try simp only [Act.put, List.getElem_toArray, List.getElem_cons_zero, List.getElem_cons_succ, List.setIfInBounds_toArray, List.set_cons_zero, List.set_cons_succ]
      refine wpAnyH_take (i := 21) (v := undef) rfl (by kernel_rfl) (by kernel_rfl) (by kernel_rfl) (fun _ _ _ h => h) (Or.inr ⟨by rfl, rfl⟩) (by assumption) ?_
      try simp only [Act.put, List.getElem_toArray, List.getElem_cons_zero, List.getElem_cons_succ, List.setIfInBounds_toArray, List.set_cons_zero, List.set_cons_succ]
      refine wpAnyH_take (i := 22) (v := undef) rfl (by kernel_rfl) (by kernel_rfl) (by kernel_rfl) (fun _ _ _ h => h) (Or.inr ⟨by rfl, rfl⟩) (by assumption) ?_
      try simp only [Act.put, List.getElem_toArray, List.getElem_cons_zero, List.getElem_cons_succ, List.setIfInBounds_toArray, List.set_cons_zero, List.set_cons_succ]
      refine wpAnyH_take (i := 23) (v := .bool false) rfl (by kernel_rfl) (by kernel_rfl) (by kernel_rfl) (fun _ _ _ h => h) (Or.inl ⟨by rfl, ?_⟩) (by assumption) ?_
      case refine_1 => intro W hSw; go_simp; try rfl
      try simp only [Act.put, List.getElem_toArray, List.getElem_cons_zero, List.getElem_cons_succ, List.setIfInBounds_toArray, List.set_cons_zero, List.set_cons_succ]
      refine wpAnyH_done (by kernel_rfl) ?_ _
      go_wp2_with fail
      refine ⟨HG.out wd HBD.out (fun c => by cases c.1), ?_⟩
      simp [intOf]
      omega
    refine wpAnyH_take (i := 9) (v := .slice (some ⟨lb, lo, none⟩) n lc) rfl (by kernel_rfl) (by kernel_rfl) (by kernel_rfl) (fun _ _ _ h => h) (Or.inl ⟨by rfl, ?_⟩) (by assumption) ?_
    case refine_1 => intro W hSw; go_simp; try rfl
    try simp only [Act.put, List.getElem_toArray, List.getElem_cons_zero, List.getElem_cons_succ, List.setIfInBounds_toArray, List.set_cons_zero, List.set_cons_succ]
    refine wpAnyH_take (i := 10) (v := .int .i64 (j : Int)) rfl (by kernel_rfl) (by kernel_rfl) (by kernel_rfl) (fun _ _ _ h => h) (Or.inl ⟨by rfl, ?_⟩) (by assumption) ?_
    case refine_1 => intro W hSw; go_simp; try rfl
    try simp only [Act.put, List.getElem_toArray, List.getElem_cons_zero, List.getElem_cons_succ, List.setIfInBounds_toArray, List.set_cons_zero, List.set_cons_succ]
    refine wpAnyH_take (i := 11) (v := .pointer (some ⟨lb, lo + j * 4, none⟩)) rfl (by kernel_rfl) (by kernel_rfl) (by kernel_rfl) (fun _ _ _ h => h) (Or.inl ⟨by rfl, ?_⟩) (by assumption) ?_
    case refine_1 => intro W hSw; go_simp; try rfl
    try simp only [Act.put, List.getElem_toArray, List.getElem_cons_zero, List.getElem_cons_succ, List.setIfInBounds_toArray, List.set_cons_zero, List.set_cons_succ]
    refine wpAnyH_take (i := 12) (v := .pointer (some ⟨lb, lo + j * 4 + 1, none⟩)) rfl (by kernel_rfl) (by kernel_rfl) (by kernel_rfl) (fun _ _ _ h => h) (Or.inl ⟨by rfl, ?_⟩) (by assumption) ?_
    case refine_1 => intro W hSw; go_simp; try rfl
    try simp only [Act.put, List.getElem_toArray, List.getElem_cons_zero, List.getElem_cons_succ, List.setIfInBounds_toArray, List.set_cons_zero, List.set_cons_succ]
    refine wpAnyH_take (i := 13) (v := .int .i64 x.t) rfl (by kernel_rfl) (by kernel_rfl) (by kernel_rfl) (fun _ _ _ h => h) (Or.inl ⟨by rfl, ?_⟩) (by assumption) ?_
    case refine_1 => intro W hSw; have k1 : W.cell? ⟨lb, lo + j * 4 + 1, none⟩ = some (.int .i64 x.t) := ed_cells HX.out.1 (HUP.out W hSw) HEj.out 1 (by decide); go_simp; try rfl
    try simp only [Act.put, List.getElem_toArray, List.getElem_cons_zero, List.getElem_cons_succ, List.setIfInBounds_toArray, List.set_cons_zero, List.set_cons_succ]
    refine wpAnyH_take (i := 14) (v := .pointer (some ⟨b3, 0, none⟩)) rfl (by kernel_rfl) (by kernel_rfl) (by kernel_rfl) (fun _ _ _ h => h) (Or.inl ⟨by rfl, ?_⟩) (by assumption) ?_
    case refine_1 => intro W hSw; go_simp; try rfl
    try simp only [Act.put, List.getElem_toArray, List.getElem_cons_zero, List.getElem_cons_succ, List.setIfInBounds_toArray, List.set_cons_zero, List.set_cons_succ]
    refine wpAnyH_take (i := 15) (v := .int .i64 e.f) rfl (by kernel_rfl) (by kernel_rfl) (by kernel_rfl) (fun _ _ _ h => h) (Or.inl ⟨by rfl, ?_⟩) (by assumption) ?_
    case refine_1 => intro W hSw; have k1 : W.cell? ⟨b3, 0, none⟩ = some (.int .i64 e.f) := (HB1.out.2.blk (hSw.block b3 HB1.out.2.lt)).cell 0; go_simp; try rfl
    try simp only [Act.put, List.getElem_toArray, List.getElem_cons_zero, List.getElem_cons_succ, List.setIfInBounds_toArray, List.set_cons_zero, List.set_cons_succ]
    refine wpAnyH_take (i := 16) (v := .bool tx) rfl (by kernel_rfl) (by kernel_rfl) (by kernel_rfl) (fun _ _ _ h => h) (Or.inl ⟨by rfl, ?_⟩) (by assumption) ?_
    case refine_1 => intro W hSw; go_simp; all_goals first | exact HTX.out | (simpa using HTX.out) | rfl
    try simp only [Act.put, List.getElem_toArray, List.getElem_cons_zero, List.getElem_cons_succ, List.setIfInBounds_toArray, List.set_cons_zero, List.set_cons_succ]
    refine wpAnyH_take (i := 17) (v := .bool tx) rfl (by kernel_rfl) (by kernel_rfl) (by kernel_rfl) (fun _ _ _ h => h) (Or.inl ⟨by rfl, ?_⟩) (by assumption) ?_
    case refine_1 => intro W hSw; go_simp; try rfl
    try simp only [Act.put, List.getElem_toArray, List.getElem_cons_zero, List.getElem_cons_succ, List.setIfInBounds_toArray, List.set_cons_zero, List.set_cons_succ]
    refine wpAnyH_take (i := 18) (v := .bool tx) rfl (by kernel_rfl) (by kernel_rfl) (by kernel_rfl) (fun _ _ _ h => h) (Or.inl ⟨by rfl, ?_⟩) (by assumption) ?_
    case refine_1 => intro W hSw; go_simp; try rfl
    try simp only [Act.put, List.getElem_toArray, List.getElem_cons_zero, List.getElem_cons_succ, List.setIfInBounds_toArray, List.set_cons_zero, List.set_cons_succ]
    cases tx
    case false =>
      refine wpAnyH_take (i := 19) (v := undef) rfl (by kernel_rfl) (by kernel_rfl) (by kernel_rfl) (fun _ _ _ h => h) (Or.inr ⟨by rfl, rfl⟩) (by assumption) ?_
      try simp only [Act.put, List.getElem_toArray, List.getElem_cons_zero, List.getElem_cons_succ, List.setIfInBounds_toArray, List.set_cons_zero, List.set_cons_succ]
      refine wpAnyH_take (i := 20) (v := undef) rfl (by kernel_rfl) (by kernel_rfl) (by kernel_rfl) (fun _ _ _ h => h) (Or.inr ⟨by rfl, rfl⟩) (by assumption) ?_
      try simp only [Act.put, List.getElem_toArray, List.getElem_cons_zero, List.getElem_cons_succ, List.setIfInBounds_toArray, List.set_cons_zero, List.set_cons_succ]
      refine wpAnyH_take (i := 21) (v := undef) rfl (by kernel_rfl) (by kernel_rfl) (by kernel_rfl) (fun _ _ _ h => h) (Or.inr ⟨by rfl, rfl⟩) (by assumption) ?_
      try simp only [Act.put, List.getElem_toArray, List.getElem_cons_zero, List.getElem_cons_succ, List.setIfInBounds_toArray, List.set_cons_zero, List.set_cons_succ]
      refine wpAnyH_take (i := 22) (v := undef) rfl (by kernel_rfl) (by kernel_rfl) (by kernel_rfl) (fun _ _ _ h => h) (Or.inr ⟨by rfl, rfl⟩) (by assumption) ?_
      try simp only [Act.put, List.getElem_toArray, List.getElem_cons_zero, List.getElem_cons_succ, List.setIfInBounds_toArray, List.set_cons_zero, List.set_cons_succ]
      refine wpAnyH_take (i := 23) (v := .bool false) rfl (by kernel_rfl) (by kernel_rfl) (by kernel_rfl) (fun _ _ _ h => h) (Or.inl ⟨by rfl, ?_⟩) (by assumption) ?_
      case refine_1 => intro W hSw; go_simp; try rfl
      try simp only [Act.put, List.getElem_toArray, List.getElem_cons_zero, List.getElem_cons_succ, List.setIfInBounds_toArray, List.set_cons_zero, List.set_cons_succ]
      refine wpAnyH_done (by kernel_rfl) ?_ _
      go_wp2_with fail
      refine ⟨HG.out wd HBD.out (fun c => by cases c.2.1), ?_⟩
      simp [intOf]
      omega
    have hju : IntKind.u64.wrap (j : Int) = (j : Int) := by simp [IntKind.wrap, IntKind.bits, IntKind.signed]; omega
    refine wpAnyH_take (i := 19) (v := .slice (some ⟨lb, lo, none⟩) n lc) rfl (by kernel_rfl) (by kernel_rfl) (by kernel_rfl) (fun _ _ _ h => h) (Or.inl ⟨by rfl, ?_⟩) (by assumption) ?_
    case refine_1 => intro W hSw; go_simp; try rfl
    try simp only [Act.put, List.getElem_toArray, List.getElem_cons_zero, List.getElem_cons_succ, List.setIfInBounds_toArray, List.set_cons_zero, List.set_cons_succ]
    refine wpAnyH_take (i := 20) (v := .int .i64 (j : Int)) rfl (by kernel_rfl) (by kernel_rfl) (by kernel_rfl) (fun _ _ _ h => h) (Or.inl ⟨by rfl, ?_⟩) (by assumption) ?_
    case refine_1 => intro W hSw; go_simp; try rfl
    try simp only [Act.put, List.getElem_toArray, List.getElem_cons_zero, List.getElem_cons_succ, List.setIfInBounds_toArray, List.set_cons_zero, List.set_cons_succ]
    refine wpAnyH_take (i := 21) (v := .int .u64 (j : Int)) rfl (by kernel_rfl) (by kernel_rfl) (by kernel_rfl) (fun _ _ _ h => h) (Or.inl ⟨by rfl, ?_⟩) (by assumption) ?_
    case refine_1 => intro W hSw; go_simp; try rfl
    try simp only [Act.put, List.getElem_toArray, List.getElem_cons_zero, List.getElem_cons_succ, List.setIfInBounds_toArray, List.set_cons_zero, List.set_cons_succ]
    refine wpAnyH_ready (rs := [22]) (by kernel_rfl) (by simp) ?_
    refine AllReadyH.cons rfl (fun K hK => ?_) AllReadyH.nil
    go_simp
    refine (counts_any (some ⟨lb, lo, none⟩) n lc es j wd HX.out.2.1 HX.out.2.2 hlt (HX.out.1.bel (HUP.out wd HBD.out))).mono ?_
    rintro e0 wf ⟨r, rfl, hr, hbf⟩
    have HR : Hid (r = true ↔ Ct es j) := hr
    have HBF : Hid (Below w1.heap.size w1 wf) := HBD.out.trans (hbf.mono HBD.out.size)
    refine hK.out _ _ HBF.out (fun hHeld => ?_)
    clear hK K hbf hr
    try simp only [Act.put, List.getElem_toArray, List.getElem_cons_zero, List.getElem_cons_succ, List.setIfInBounds_toArray, List.set_cons_zero, List.set_cons_succ]
    refine wpAnyH_take (i := 23) (v := .bool r) rfl (by kernel_rfl) (by kernel_rfl) (by kernel_rfl) (fun _ _ _ h => h) (Or.inl ⟨by rfl, ?_⟩) (by assumption) ?_
    case refine_1 => intro W hSw; go_simp; try rfl
    try simp only [Act.put, List.getElem_toArray, List.getElem_cons_zero, List.getElem_cons_succ, List.setIfInBounds_toArray, List.set_cons_zero, List.set_cons_succ]
    refine wpAnyH_done (by kernel_rfl) ?_ _
    clear hHeld
    cases r
    case false =>
      go_wp2_with fail
      refine ⟨HG.out wf HBF.out (fun c => by cases HR.out.2 c.2.2), ?_⟩
      simp [intOf]
      omega
    have HE : Hid (BpPost w (Bk es e) (.returned (.bool true)) wf) := HT.out wf HBF.out ⟨rfl, rfl, HR.out.1 rfl⟩
    go_wp2_with fail
    go_ret
    exact HE.out
set_option maxRecDepth 100000 in
set_option maxHeartbeats 32000000 in
theorem sd_any (la : Option Addr) (n lc : Nat) (es : List Ed) (i : Nat) (w : World) (hn : es.length = n) (hb : n < 1000000000) (hi : i < n) (h : Lst EE w la es) : Calls Try.prog 12 #[.slice la n lc, .int .u64 (i : Int)] w (BpPost w (Sd es i)) := by
  obtain ⟨lb, lo, rfl, -, -⟩ := h.cells i (by rw [hn]; exact hi)
  obtain ⟨e, he⟩ : ∃ y, es[i]? = some y := ⟨es[i]'(by rw [hn]; exact hi), List.getElem?_eq_getElem _⟩
  have HX : Hid (Lst EE w (some ⟨lb, lo, none⟩) es ∧ es.length = n ∧ n < 1000000000 ∧ es[i]? = some e ∧ i < n) := ⟨h, hn, hb, he, hi⟩
  have hi0 : (i : Int) < 1000000000 := by omega
  have hi1 : (i : Int) < (n : Int) := by omega
  have hi2 : (0 : Int) ≤ (i : Int) := by omega
  have hn0 : (n : Int) < 1000000000 := by omega
  clear h hn hb he
  go_enter Try.func12, Try.ntmps12
  have HC : Hid (∀ q, q < 4 → w.cell? ⟨lb, lo + i * 4 + q, none⟩ = (edL e)[q]?) := fun q hq => ed_cells HX.out.1 (Below.refl _ _) HX.out.2.2.2.1 q hq
  go_wp2_with (first | (refine list_sat EdK rfl _ rfl (b := lb) (k := lo + i * 4) (cs := edL e) rfl HC.out rfl ?_) | (refine list_newl EdK _ z_ed rfl rfl ?_))
  intro b5 w1 hb1 hs1 hbl1
  have HB1 : Hid (w.heap.size ≤ b5 ∧ Below w.heap.size w w1) := ⟨by rw [hb1.out]; exact Nat.le_refl _, hbl1.out⟩
  have HS1 : Hid (SB EdK b5 (edL ⟨0, 0, 0, 0⟩) w1) := hs1.out
  clear hb1 hs1 hbl1 HC
  go_wp2_with (refine list_sstore EdK rfl _ _ rfl (b := b5) (cs := edL ⟨0, 0, 0, 0⟩) (cs' := edL e) rfl rfl HS1.out rfl rfl rfl ?_)
  intro w2 hs2 hk2
  have HB2 : Hid (Below w.heap.size w w2 ∧ SB EdK b5 (edL e) w2) := ⟨HB1.out.2.trans (hk2.out.below HB1.out.1), hs2.out⟩
  clear hs2 hk2 HS1 HB1
  go_wp2_with fail
  refine (counts_any (some ⟨lb, lo, none⟩) n lc es i w2 HX.out.2.1 HX.out.2.2.1 HX.out.2.2.2.2 (HX.out.1.bel HB2.out.1)).mono ?_
  rintro e0 w3 ⟨r, rfl, hr, hb3⟩
  have HR : Hid (r = true ↔ Ct es i) := hr
  have HB3 : Hid (Below w.heap.size w w3 ∧ SB EdK b5 (edL e) w3) := ⟨HB2.out.1.trans (hb3.mono HB2.out.1.size), HB2.out.2.blk (hb3.block b5 HB2.out.2.lt)⟩
  clear hr hb3 HB2
  cases r
  case false =>
    have HE : Hid (BpPost w (Sd es i) (.returned (.bool false)) w3) := ⟨false, rfl, ⟨fun c => (by cases c), fun ⟨e', h1, h2, h3⟩ => (by cases HR.out.2 h2)⟩, HB3.out.1⟩
    go_wp2_with fail
    go_ret
    exact HE.out
  go_wp2_with (refine list_gload EdK (by rfl) _ rfl (b := b5) (cs := edL e) rfl HB3.out.2 rfl ?_)
  refine (back_any (some ⟨lb, lo, none⟩) n lc es e w3 HX.out.2.1 HX.out.2.2.1 (HX.out.1.bel HB3.out.1)).mono ?_
  rintro e0 w4 ⟨r2, rfl, hr2, hb4⟩
  have HE : Hid (BpPost w (Sd es i) (.returned (.bool r2)) w4) := ⟨r2, rfl, ⟨fun c => ⟨e, HX.out.2.2.2.1, HR.out.1 (by simp), hr2.1 c⟩, fun ⟨e', h1, h2, h3⟩ => (by rw [HX.out.2.2.2.1] at h1; cases h1; exact hr2.2 h3)⟩, HB3.out.1.trans (hb4.mono HB3.out.1.size)⟩
  clear hr2 hb4
  go_wp2_with fail
  go_ret
  exact HE.out
end Go.Proofs.Ythhdpfgepjmgkaa.Dj
