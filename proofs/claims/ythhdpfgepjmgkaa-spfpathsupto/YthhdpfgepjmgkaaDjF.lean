/- Turns in memory: Len, Less, Swap; the methods behind the interface. -/
import Derived.Test.YthhdpfgepjmgkaaDjB
namespace Go.Proofs.Ythhdpfgepjmgkaa.Dj
open Go.ChangeShapes Go.WideShapes Go.ChangeAt Go.RowKit Go.Joins Go.Deep Go.Proofs.Ythhdpfgepjmgkaa.Ge
set_option linter.unusedVariables false
set_option linter.unusedSimpArgs false

theorem wnc (xt : TypeId) (a : Addr) (s m : ByteArray) : Builtin.ssaWrapNilChk_ #[xt] xt #[.pointer (some a), .string s, .string m] = pure (.pointer (some a)) := by rfl
set_option maxRecDepth 100000 in
theorem meth_any (nm : String) (f : Nat) (W : World) (b : Nat) (va : Option Addr) (n c : Nat) (hm : ∃ m, Array.find? (fun x => x.name == nm) Try.t97.methods = some m ∧ m.path = #[] ∧ m.func = some (f, false)) (h : W.cell? ⟨b, 0, none⟩ = some (.slice va n c)) : Sem.run Try.prog (method (Try.prog.types.size + 100) 97 (.pointer (some ⟨b, 0, none⟩)) nm) W = .ok (f, .slice va n c) W := by
  obtain ⟨m, h1, h2, h3⟩ := hm
  rw [show Try.prog.types.size + 100 = (Try.prog.types.size + 99) + 1 from rfl, method]
  go_simp
  have u1 := Try.underlying97
  have u2 := Try.underlying92
  have a2 := Try.isAgg92
  simp only [follow, Sem.run_pure, Result.andThen_ok, receiverAt, Sem.run_bind, run_underlying u1, Place.get, strVal, wnc]
  simp [go_sem, asAddr, h]
theorem Ko.drew (w : World) (g : Nat) : Ko w g w.drew := ⟨(drew_bel w).mono (Nat.zero_le _), rfl, fun _ _ => rfl⟩
theorem at_tn {N g n c : Nat} {W : World} {xs : List Tn} (h : OwnL ET N W (.slice (some ⟨g, 0, none⟩) n c) xs) {i : Nat} (hi : i < xs.length) : W.cell? ⟨g, i * 2, none⟩ = some (.int .i64 xs[i].d) ∧ W.cell? ⟨g, i * 2 + 1, none⟩ = some (.int .i64 xs[i].n) := by
  obtain ⟨h1, -⟩ := h.at0
  exact ⟨h1 i hi 0 (by decide), h1 i hi 1 (by decide)⟩
set_option maxRecDepth 100000 in
set_option maxHeartbeats 8000000 in
theorem less_any (N g n c : Nat) (xs : List Tn) (i j : Nat) (w : World) (h : OwnL ET N w (.slice (some ⟨g, 0, none⟩) n c) xs) (hi : i < n) (hj : j < n) (r : Bool) (hr : ∀ (h1 : i < xs.length) (h2 : j < xs.length), decide (xs[i].d < xs[j].d) = r) : Calls Try.prog 107 #[.slice (some ⟨g, 0, none⟩) n c, .int .i64 (i : Int), .int .i64 (j : Int)] w fun e w' => e = .returned (.bool r) ∧ w.drew = w' := by
  have hn : xs.length = n := h.lst.2
  have e1 := (at_tn h (i := i) (by omega)).1
  have e2 := (at_tn h (i := j) (by omega)).1
  have HR := hr (by omega) (by omega)
  obtain ⟨x, hx⟩ : ∃ y, (xs[i]'(by omega)).d = y := ⟨_, rfl⟩
  obtain ⟨z, hz⟩ : ∃ y, (xs[j]'(by omega)).d = y := ⟨_, rfl⟩
  rw [hx] at e1 HR
  rw [hz] at e2 HR
  have HH : Hid (decide (x < z) = r) := HR
  have i0 : (0 : Int) ≤ (i : Int) := by omega
  have i1 : (i : Int) < (n : Int) := by omega
  have j0 : (0 : Int) ≤ (j : Int) := by omega
  have j1 : (j : Int) < (n : Int) := by omega
  have d1 : w.drew.cell? ⟨g, i * 2, none⟩ = some (.int .i64 x) := e1
  have d2 : w.drew.cell? ⟨g, j * 2, none⟩ = some (.int .i64 z) := e2
  clear hr h hx hz HR hi hj hn
  go_enter Try.func107, Try.ntmps107
  go_wp2_with fail
  go_still (by kernel_rfl)
  go_wp2_with fail
  go_ret
  exact ⟨congrArg (fun b => Ending.returned (.bool b)) HH.out, rfl⟩
theorem len_any (a : Option Addr) (n c : Nat) (w : World) : Calls Try.prog 106 #[.slice a n c] w fun e w' => e = .returned (.int .i64 (n : Int)) ∧ w = w' := by
  go_enter Try.func106, Try.ntmps106
  go_wp2
  go_ret
  exact ⟨rfl, rfl⟩
/-- two stand in each other's place -/
def sw (xs : List Tn) (i j : Nat) : List Tn := if h : i < xs.length ∧ j < xs.length then (xs.set i (xs[j]'h.2)).set j (xs[i]'h.1) else xs
theorem sw_len (xs : List Tn) (i j : Nat) : (sw xs i j).length = xs.length := by
  unfold sw
  split <;> simp
theorem sw_perm (xs : List Tn) (i j : Nat) : (sw xs i j).Perm xs := by
  unfold sw
  split
  · exact Go.Sort.perm_set_set xs i j _ _
  · exact List.Perm.refl _
theorem sw_at (xs : List Tn) {i j k : Nat} (hi : i < xs.length) (hj : j < xs.length) (hk : k < xs.length) : (sw xs i j)[k]'(by rw [sw_len]; exact hk) = if k = j then xs[i] else if k = i then xs[j] else xs[k] := by
  have e : sw xs i j = (xs.set i xs[j]).set j xs[i] := by unfold sw; rw [dif_pos ⟨hi, hj⟩]
  simp only [e, List.getElem_set]
  by_cases h1 : k = j
  · subst h1; simp
  · by_cases h2 : k = i
    · subst h2; simp [h1, Ne.symm h1]
    · simp [h1, h2, Ne.symm h1, Ne.symm h2]
theorem tn_set {N g n c i : Nat} {W : World} {xs : List Tn} (h : OwnL ET N W (.slice (some ⟨g, 0, none⟩) n c) xs) (hi : i < xs.length) (y : Tn) : OwnL ET N (W.setCells g (i * 2) (tnL y)) (.slice (some ⟨g, 0, none⟩) n c) (xs.set i y) := by
  have h1 := h.setc (i := i) (j := 0) hi (by decide) (.int .i64 y.d) ⟨y.d, xs[i].n⟩ rfl
  have h2 := h1.setc (i := i) (j := 1) (by rw [List.length_set]; exact hi) (by decide) (.int .i64 y.n) y (by rw [List.getElem_set_self]; rfl)
  rw [List.set_set] at h2
  exact h2
theorem tn_there {N g n c i : Nat} {W : World} {xs : List Tn} (h : OwnL ET N W (.slice (some ⟨g, 0, none⟩) n c) xs) (hi : i < xs.length) : W.there g (i * 2) 2 := by
  obtain ⟨h1, h2, -⟩ := h.at0
  intro j hj
  have hc : W.cell? ⟨g, i * 2 + j, none⟩ = (tnL xs[i])[j]? := h1 i hi j hj
  rw [List.getElem?_eq_getElem (show j < (tnL xs[i]).length from hj)] at hc
  exact ⟨by rw [hc]; rfl, h2 _⟩
theorem tn_cells {N g n c i : Nat} {W : World} {xs : List Tn} (h : OwnL ET N W (.slice (some ⟨g, 0, none⟩) n c) xs) (hi : i < xs.length) (k : Nat) (hk : k < TnK.k) : W.cell? ⟨g, i * 2 + k, none⟩ = (tnL xs[i])[k]? := h.at0.1 i hi k hk
theorem ko_cells (g : Nat) : ∀ (vs : List Value) (off : Nat) (W : World), Ko W g (W.setCells g off vs)
  | [], off, W => Ko.refl W g
  | v :: vs, off, W => (Ko.set W g off v).trans (ko_cells g vs (off + 1) _)
theorem sat_run {o : Oper} {ρ : Operand → Value} {W : World} (T : Sk) (x : Operand) (ho : o.op = .load T.t x) {b k : Nat} {cs : List Value} (hx : ρ x = .pointer (some ⟨b, k, none⟩)) (h : ∀ j, j < T.k → W.cell? ⟨b, k + j, none⟩ = cs[j]?) (hl : cs.length = T.k) : (execOp ρ o).run Try.prog W = .ok (.value (.agg cs.toArray)) W := by
  unfold execOp
  have hr : W.rangeAt b k cs := fun j v hv => by
    have hj : j < T.k := by rw [← hl]; exact (List.getElem?_eq_some_iff.1 hv).1
    rw [h j hj]; exact hv
  simp only [ho, hx, Instr.loadAt, Instr.sureAddr, Sem.run_bind, Sem.run_pure, Result.andThen_ok, run_loadVar_mid W b k T.t cs T.d hr T.hu T.hd (by rw [T.hi, hl])]
theorem rowst_run {o : Oper} {ρ : Operand → Value} {W : World} (T : Sk) (x y : Operand) (ho : o.op = .store T.t x y) {b k : Nat} {cs : List Value} (hx : ρ x = .pointer (some ⟨b, k, none⟩)) (hy : ρ y = .agg cs.toArray) (ht : W.there b k T.k) (hl : cs.length = T.k) (h1 : cs.all (·.oneCell') = true) : (execOp ρ o).run Try.prog W = .ok .skip (W.setCells b k cs) := by
  unfold execOp
  have ha : cs.toArray.all (·.oneCell') = true := by simpa using h1
  have hs : cs.toArray.size = T.k := by simpa using hl
  have h5 := run_storeVar_mid (P := Try.prog) W b k T.t cs.toArray (by rw [hs]; exact ht) (by rw [T.hi, hs]) ha
  simp only [ho, hx, hy, Instr.storeAt, Instr.sureAddr, Sem.run_bind, Sem.run_pure, Result.andThen_ok, h5]
set_option maxRecDepth 100000 in
set_option maxHeartbeats 8000000 in
theorem swap_any (N g n c : Nat) (xs : List Tn) (p q : Nat) (w : World) (h : OwnL ET N w (.slice (some ⟨g, 0, none⟩) n c) xs) (hp : p < n) (hq : q < n) : Calls Try.prog 108 #[.slice (some ⟨g, 0, none⟩) n c, .int .i64 (p : Int), .int .i64 (q : Int)] w fun e w' => e = .returned (.tuple #[]) ∧ OwnL ET N w' (.slice (some ⟨g, 0, none⟩) n c) (sw xs p q) ∧ Ko w g w' := by
  have hn : xs.length = n := h.lst.2
  have HP : Hid (p < xs.length ∧ q < xs.length) := ⟨by omega, by omega⟩
  have HO : Hid (OwnL ET N w.drew (.slice (some ⟨g, 0, none⟩) n c) xs) := h.bel (drew_bel w)
  obtain ⟨x, hx⟩ : ∃ y, (xs[p]'HP.out.1) = y := ⟨_, rfl⟩
  obtain ⟨z, hz⟩ : ∃ y, (xs[q]'HP.out.2) = y := ⟨_, rfl⟩
  obtain ⟨wc, hwc⟩ : ∃ y, w.drew = y := ⟨_, rfl⟩
  have HWC : Hid (w.drew = wc) := hwc
  rw [hwc] at HO
  have HS : Hid (sw xs p q = (xs.set p z).set q x) := by show _ = _; unfold sw; rw [dif_pos HP.out, hx, hz]
  have HRp : Hid (∀ k, k < TnK.k → wc.cell? ⟨g, p * 2 + k, none⟩ = (tnL x)[k]?) := by rw [← hx]; exact tn_cells HO.out HP.out.1
  have HRq : Hid (∀ k, k < TnK.k → wc.cell? ⟨g, q * 2 + k, none⟩ = (tnL z)[k]?) := by rw [← hz]; exact tn_cells HO.out HP.out.2
  have HO5 : Hid (OwnL ET N (wc.setCells g (p * 2) (tnL z)) (.slice (some ⟨g, 0, none⟩) n c) (xs.set p z)) := tn_set HO.out HP.out.1 z
  have HTH : Hid (wc.there g (p * 2) 2 ∧ (wc.setCells g (p * 2) (tnL z)).there g (q * 2) 2) := ⟨tn_there HO.out HP.out.1, tn_there HO5.out (by rw [List.length_set]; exact HP.out.2)⟩
  have HG : Hid (OwnL ET N ((wc.setCells g (p * 2) (tnL z)).setCells g (q * 2) (tnL x)) (.slice (some ⟨g, 0, none⟩) n c) (sw xs p q) ∧ Ko w g ((wc.setCells g (p * 2) (tnL z)).setCells g (q * 2) (tnL x))) := by
    refine ⟨?_, ?_⟩
    · rw [HS.out]
      exact tn_set HO5.out (by rw [List.length_set]; exact HP.out.2) x
    · rw [← hwc]
      exact ((Ko.drew w g).trans (ko_cells g _ _ _)).trans (ko_cells g _ _ _)
  have p0 : (0 : Int) ≤ (p : Int) := by omega
  have p1 : (p : Int) < (n : Int) := by omega
  have q0 : (0 : Int) ≤ (q : Int) := by omega
  have q1 : (q : Int) < (n : Int) := by omega
  clear hx hz hwc h hn hp hq HO HS HO5
  go_enter Try.func108, Try.ntmps108
  go_wp2_with fail
  refine wp_region_held_drew (S := fun _ => True) (by kernel_rfl) trivial (fun hHeld => ?_)
  rw [HWC.out]
  refine wpAnyH_take (i := 0) (v := .slice (some ⟨g, 0, none⟩) n c) rfl (by kernel_rfl) (by kernel_rfl) (by kernel_rfl) (fun _ _ _ h => h) (Or.inl ⟨by rfl, ?_⟩) (by assumption) ?_
  case refine_1 => intro W hSw; go_simp; try rfl
  try simp only [Act.put, List.getElem_toArray, List.getElem_cons_zero, List.getElem_cons_succ, List.setIfInBounds_toArray, List.set_cons_zero, List.set_cons_succ]
  refine wpAnyH_take (i := 1) (v := .int .i64 (p : Int)) rfl (by kernel_rfl) (by kernel_rfl) (by kernel_rfl) (fun _ _ _ h => h) (Or.inl ⟨by rfl, ?_⟩) (by assumption) ?_
  case refine_1 => intro W hSw; go_simp; try rfl
  try simp only [Act.put, List.getElem_toArray, List.getElem_cons_zero, List.getElem_cons_succ, List.setIfInBounds_toArray, List.set_cons_zero, List.set_cons_succ]
  refine wpAnyH_take (i := 2) (v := .slice (some ⟨g, 0, none⟩) n c) rfl (by kernel_rfl) (by kernel_rfl) (by kernel_rfl) (fun _ _ _ h => h) (Or.inl ⟨by rfl, ?_⟩) (by assumption) ?_
  case refine_1 => intro W hSw; go_simp; try rfl
  try simp only [Act.put, List.getElem_toArray, List.getElem_cons_zero, List.getElem_cons_succ, List.setIfInBounds_toArray, List.set_cons_zero, List.set_cons_succ]
  refine wpAnyH_take (i := 3) (v := .int .i64 (q : Int)) rfl (by kernel_rfl) (by kernel_rfl) (by kernel_rfl) (fun _ _ _ h => h) (Or.inl ⟨by rfl, ?_⟩) (by assumption) ?_
  case refine_1 => intro W hSw; go_simp; try rfl
  try simp only [Act.put, List.getElem_toArray, List.getElem_cons_zero, List.getElem_cons_succ, List.setIfInBounds_toArray, List.set_cons_zero, List.set_cons_succ]
  refine wpAnyH_take (i := 4) (v := .slice (some ⟨g, 0, none⟩) n c) rfl (by kernel_rfl) (by kernel_rfl) (by kernel_rfl) (fun _ _ _ h => h) (Or.inl ⟨by rfl, ?_⟩) (by assumption) ?_
  case refine_1 => intro W hSw; go_simp; try rfl
  try simp only [Act.put, List.getElem_toArray, List.getElem_cons_zero, List.getElem_cons_succ, List.setIfInBounds_toArray, List.set_cons_zero, List.set_cons_succ]
  refine wpAnyH_take (i := 5) (v := .int .i64 (q : Int)) rfl (by kernel_rfl) (by kernel_rfl) (by kernel_rfl) (fun _ _ _ h => h) (Or.inl ⟨by rfl, ?_⟩) (by assumption) ?_
  case refine_1 => intro W hSw; go_simp; try rfl
  try simp only [Act.put, List.getElem_toArray, List.getElem_cons_zero, List.getElem_cons_succ, List.setIfInBounds_toArray, List.set_cons_zero, List.set_cons_succ]
  refine wpAnyH_take (i := 6) (v := .pointer (some ⟨g, q * 2, none⟩)) rfl (by kernel_rfl) (by kernel_rfl) (by kernel_rfl) (fun _ _ _ h => h) (Or.inl ⟨by rfl, ?_⟩) (by assumption) ?_
  case refine_1 => intro W hSw; go_simp; try rfl
  try simp only [Act.put, List.getElem_toArray, List.getElem_cons_zero, List.getElem_cons_succ, List.setIfInBounds_toArray, List.set_cons_zero, List.set_cons_succ]
  refine wpAnyH_take (i := 8) (v := .slice (some ⟨g, 0, none⟩) n c) rfl (by kernel_rfl) (by kernel_rfl) (by kernel_rfl) (fun _ _ _ h => h) (Or.inl ⟨by rfl, ?_⟩) (by assumption) ?_
  case refine_1 => intro W hSw; go_simp; try rfl
  try simp only [Act.put, List.getElem_toArray, List.getElem_cons_zero, List.getElem_cons_succ, List.setIfInBounds_toArray, List.set_cons_zero, List.set_cons_succ]
  refine wpAnyH_take (i := 9) (v := .int .i64 (p : Int)) rfl (by kernel_rfl) (by kernel_rfl) (by kernel_rfl) (fun _ _ _ h => h) (Or.inl ⟨by rfl, ?_⟩) (by assumption) ?_
  case refine_1 => intro W hSw; go_simp; try rfl
  try simp only [Act.put, List.getElem_toArray, List.getElem_cons_zero, List.getElem_cons_succ, List.setIfInBounds_toArray, List.set_cons_zero, List.set_cons_succ]
  refine wpAnyH_take (i := 10) (v := .pointer (some ⟨g, p * 2, none⟩)) rfl (by kernel_rfl) (by kernel_rfl) (by kernel_rfl) (fun _ _ _ h => h) (Or.inl ⟨by rfl, ?_⟩) (by assumption) ?_
  case refine_1 => intro W hSw; go_simp; try rfl
  try simp only [Act.put, List.getElem_toArray, List.getElem_cons_zero, List.getElem_cons_succ, List.setIfInBounds_toArray, List.set_cons_zero, List.set_cons_succ]
  refine wpAnyH_ready (rs := [7, 11]) (by kernel_rfl) (by simp) ?_
  refine AllReadyH.cons rfl (fun K hK => ?_) (AllReadyH.cons rfl (fun K hK => ?_) AllReadyH.nil)
  · skip
    refine step_run rfl (sat_run TnK (.tmp 12) rfl (b := g) (k := q * 2) (cs := tnL z) rfl (HRq.out) rfl) ?_
    refine hK.out _ _ trivial (fun hHeld => ?_)
    clear hK K
    try simp only [Act.put, List.getElem_toArray, List.getElem_cons_zero, List.getElem_cons_succ, List.setIfInBounds_toArray, List.set_cons_zero, List.set_cons_succ]
    refine wpAnyH_ready (rs := [11]) (by kernel_rfl) (by simp) ?_
    refine AllReadyH.cons rfl (fun K hK => ?_) AllReadyH.nil
    refine step_run rfl (sat_run TnK (.tmp 16) rfl (b := g) (k := p * 2) (cs := tnL x) rfl (HRp.out) rfl) ?_
    refine hK.out _ _ trivial (fun hHeld => ?_)
    clear hK K
    try simp only [Act.put, List.getElem_toArray, List.getElem_cons_zero, List.getElem_cons_succ, List.setIfInBounds_toArray, List.set_cons_zero, List.set_cons_succ]
    refine wpAnyH_take (i := 12) (v := .pointer (some ⟨g, p * 2, none⟩)) rfl (by kernel_rfl) (by kernel_rfl) (by kernel_rfl) (fun _ _ _ h => h) (Or.inl ⟨by rfl, ?_⟩) (by assumption) ?_
    case refine_1 => intro W hSw; go_simp; try rfl
    try simp only [Act.put, List.getElem_toArray, List.getElem_cons_zero, List.getElem_cons_succ, List.setIfInBounds_toArray, List.set_cons_zero, List.set_cons_succ]
    refine wpAnyH_ready (rs := [13]) (by kernel_rfl) (by simp) ?_
    refine AllReadyH.cons rfl (fun K hK => ?_) AllReadyH.nil
    refine step_runs rfl (rowst_run TnK (.tmp 18) (.tmp 13) rfl (b := g) (k := p * 2) (cs := tnL z) rfl rfl (HTH.out.1) rfl rfl) ?_
    refine hK.out _ _ trivial (fun hHeld => ?_)
    clear hK K
    try simp only [Act.put, List.getElem_toArray, List.getElem_cons_zero, List.getElem_cons_succ, List.setIfInBounds_toArray, List.set_cons_zero, List.set_cons_succ]
    obtain ⟨w5, hw5⟩ : ∃ y, wc.setCells g (p * 2) (tnL z) = y := ⟨_, rfl⟩
    rw [hw5] at HG HTH ⊢
    clear hw5
    refine wpAnyH_take (i := 14) (v := .pointer (some ⟨g, q * 2, none⟩)) rfl (by kernel_rfl) (by kernel_rfl) (by kernel_rfl) (fun _ _ _ h => h) (Or.inl ⟨by rfl, ?_⟩) (by assumption) ?_
    case refine_1 => intro W hSw; go_simp; try rfl
    try simp only [Act.put, List.getElem_toArray, List.getElem_cons_zero, List.getElem_cons_succ, List.setIfInBounds_toArray, List.set_cons_zero, List.set_cons_succ]
    refine wpAnyH_ready (rs := [15]) (by kernel_rfl) (by simp) ?_
    refine AllReadyH.cons rfl (fun K hK => ?_) AllReadyH.nil
    refine step_runs rfl (rowst_run TnK (.tmp 19) (.tmp 17) rfl (b := g) (k := q * 2) (cs := tnL x) rfl rfl (HTH.out.2) rfl rfl) ?_
    refine hK.out _ _ trivial (fun hHeld => ?_)
    clear hK K
    try simp only [Act.put, List.getElem_toArray, List.getElem_cons_zero, List.getElem_cons_succ, List.setIfInBounds_toArray, List.set_cons_zero, List.set_cons_succ]
    obtain ⟨w6, hw6⟩ : ∃ y, w5.setCells g (q * 2) (tnL x) = y := ⟨_, rfl⟩
    rw [hw6] at HG ⊢
    clear hw6
    refine wpAnyH_done (by kernel_rfl) ?_ _
    clear hHeld HTH HRp HRq
    go_wp2_with fail
    go_end0
    exact ⟨rfl, HG.out.1, HG.out.2⟩
  · skip
    refine step_run rfl (sat_run TnK (.tmp 16) rfl (b := g) (k := p * 2) (cs := tnL x) rfl (HRp.out) rfl) ?_
    refine hK.out _ _ trivial (fun hHeld => ?_)
    clear hK K
    try simp only [Act.put, List.getElem_toArray, List.getElem_cons_zero, List.getElem_cons_succ, List.setIfInBounds_toArray, List.set_cons_zero, List.set_cons_succ]
    refine wpAnyH_ready (rs := [7]) (by kernel_rfl) (by simp) ?_
    refine AllReadyH.cons rfl (fun K hK => ?_) AllReadyH.nil
    refine step_run rfl (sat_run TnK (.tmp 12) rfl (b := g) (k := q * 2) (cs := tnL z) rfl (HRq.out) rfl) ?_
    refine hK.out _ _ trivial (fun hHeld => ?_)
    clear hK K
    try simp only [Act.put, List.getElem_toArray, List.getElem_cons_zero, List.getElem_cons_succ, List.setIfInBounds_toArray, List.set_cons_zero, List.set_cons_succ]
    refine wpAnyH_take (i := 12) (v := .pointer (some ⟨g, p * 2, none⟩)) rfl (by kernel_rfl) (by kernel_rfl) (by kernel_rfl) (fun _ _ _ h => h) (Or.inl ⟨by rfl, ?_⟩) (by assumption) ?_
    case refine_1 => intro W hSw; go_simp; try rfl
    try simp only [Act.put, List.getElem_toArray, List.getElem_cons_zero, List.getElem_cons_succ, List.setIfInBounds_toArray, List.set_cons_zero, List.set_cons_succ]
    refine wpAnyH_ready (rs := [13]) (by kernel_rfl) (by simp) ?_
    refine AllReadyH.cons rfl (fun K hK => ?_) AllReadyH.nil
    refine step_runs rfl (rowst_run TnK (.tmp 18) (.tmp 13) rfl (b := g) (k := p * 2) (cs := tnL z) rfl rfl (HTH.out.1) rfl rfl) ?_
    refine hK.out _ _ trivial (fun hHeld => ?_)
    clear hK K
    try simp only [Act.put, List.getElem_toArray, List.getElem_cons_zero, List.getElem_cons_succ, List.setIfInBounds_toArray, List.set_cons_zero, List.set_cons_succ]
    obtain ⟨w5, hw5⟩ : ∃ y, wc.setCells g (p * 2) (tnL z) = y := ⟨_, rfl⟩
    rw [hw5] at HG HTH ⊢
    clear hw5
    refine wpAnyH_take (i := 14) (v := .pointer (some ⟨g, q * 2, none⟩)) rfl (by kernel_rfl) (by kernel_rfl) (by kernel_rfl) (fun _ _ _ h => h) (Or.inl ⟨by rfl, ?_⟩) (by assumption) ?_
    case refine_1 => intro W hSw; go_simp; try rfl
    try simp only [Act.put, List.getElem_toArray, List.getElem_cons_zero, List.getElem_cons_succ, List.setIfInBounds_toArray, List.set_cons_zero, List.set_cons_succ]
    refine wpAnyH_ready (rs := [15]) (by kernel_rfl) (by simp) ?_
    refine AllReadyH.cons rfl (fun K hK => ?_) AllReadyH.nil
    refine step_runs rfl (rowst_run TnK (.tmp 19) (.tmp 17) rfl (b := g) (k := q * 2) (cs := tnL x) rfl rfl (HTH.out.2) rfl rfl) ?_
    refine hK.out _ _ trivial (fun hHeld => ?_)
    clear hK K
    try simp only [Act.put, List.getElem_toArray, List.getElem_cons_zero, List.getElem_cons_succ, List.setIfInBounds_toArray, List.set_cons_zero, List.set_cons_succ]
    obtain ⟨w6, hw6⟩ : ∃ y, w5.setCells g (q * 2) (tnL x) = y := ⟨_, rfl⟩
    rw [hw6] at HG ⊢
    clear hw6
    refine wpAnyH_done (by kernel_rfl) ?_ _
    clear hHeld HTH HRp HRq
    go_wp2_with fail
    go_end0
    exact ⟨rfl, HG.out.1, HG.out.2⟩
end Go.Proofs.Ythhdpfgepjmgkaa.Dj
