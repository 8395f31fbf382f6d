/- Two ends that talk: some bytes come to one. Two ends that talk: all that is under way comes. -/
import Derived.Test.YtanboekdfdafmaaMgL
namespace Go.Proofs.Ytanboekdfdafmaa.Pv
open Go.ChangeShapes Go.WideShapes Go.ChangeAt Go.RowKit Go.Joins Go.Deep Go.Proofs.Ytanboekdfdafmaa.PM Go.Proofs.Ytanboekdfdafmaa.Ask Go.Proofs.Ytanboekdfdafmaa.Ge
set_option linter.unusedVariables false
set_option linter.unusedSimpArgs false

/-- the head of a slice of bytes -/
theorem slk_run {o : Oper} {ρ : Operand → Value} {W : World} (x hi : Operand) (ho : o.op = .slice 32 x none (some hi) none) {ao : Option Addr} {n c k : Nat} (hx : ρ x = .slice ao n c) (hh : ρ hi = .int .i64 (k : Int)) (h1 : k ≤ n) (h2 : n ≤ c) (hnil : ao = none → n = 0 ∧ c = 0) (hsp : ∀ ad, ao = some ad → ∃ b f, ad = ⟨b, f, none⟩) :
    (execOp ρ o).run Try.prog W = .ok (.value (.slice ao k c)) W := by
  cases ao with
  | none =>
    obtain ⟨rfl, rfl⟩ := hnil rfl
    obtain rfl : k = 0 := by omega
    unfold execOp
    rw [ho]
    simp [go_sem, hx, hh]
  | some ad =>
    obtain ⟨b, f, rfl⟩ := hsp ad rfl
    have g2 : (k : Int) ≤ (c : Int) := by omega
    unfold execOp
    rw [ho]
    by_cases hc : c = 0
    · subst hc
      obtain rfl : k = 0 := by omega
      simp [go_sem, hx, hh]
    · simp [go_sem, hx, hh, g2, hc]
theorem list_slk {ops : Array Oper} {rest : List Oper} {o : Oper} {ac : Act} {Q : Exit → Act → World → Prop} {W : World} (hgd : o.guard = none) (x hi : Operand) (ho : o.op = .slice 32 x none (some hi) none) {ao : Option Addr} {n c k : Nat} (hx : ac.eval x = .slice ao n c) (hh : ac.eval hi = .int .i64 (k : Int)) (h1 : k ≤ n) (h2 : n ≤ c) (hnil : ao = none → n = 0 ∧ c = 0) (hsp : ∀ ad, ao = some ad → ∃ b f, ad = ⟨b, f, none⟩)
    (kk : wpList Try.prog ops Q rest (ac.put o.dst (.slice ao k c)) W) : wpList Try.prog ops Q (o :: rest) ac W := by
  refine wpList_plain hgd fun K hK => ?_
  unfold Oper.wp
  rw [slk_run x hi ho hx hh h1 h2 hnil hsp]
  exact hK _ _ kk
/-- the rest of a slice of bytes -/
theorem sln_ex {ao : Option Addr} {n c k : Nat} (h1 : k ≤ n) (h2 : n ≤ c) (hnil : ao = none → n = 0 ∧ c = 0) (hsp : ∀ ad, ao = some ad → ∃ b f, ad = ⟨b, f, none⟩) : ∃ vd, (∀ (o : Oper) (ρ : Operand → Value) (W : World) (x lo : Operand), o.op = .slice 32 x (some lo) none none → ρ x = .slice ao n c → ρ lo = .int .i64 (k : Int) → (execOp ρ o).run Try.prog W = .ok (.value (.slice vd (n - k) (c - k))) W) ∧ (∀ (W : World) (xs : List Nat), xs.length = n → Lst E8 W ao xs → Lst E8 W vd (xs.drop k)) ∧ (vd = none → n - k = 0 ∧ c - k = 0) := by
  cases ao with
  | none =>
    obtain ⟨rfl, rfl⟩ := hnil rfl
    obtain rfl : k = 0 := by omega
    refine ⟨none, fun o ρ W x lo ho hx hl => ?_, fun W xs _ h => by rw [List.drop_zero]; exact h, fun _ => ⟨rfl, rfl⟩⟩
    unfold execOp
    rw [ho]
    simp [go_sem, hx, hl]
  | some ad =>
    obtain ⟨b, f, rfl⟩ := hsp ad rfl
    refine ⟨if c = k then some ⟨b, f, none⟩ else some ⟨b, f + k, none⟩, fun o ρ W x lo ho hx hl => slice8n_run x lo ho hx hl h1 h2, fun W xs hx h => ?_, fun e => ?_⟩
    · by_cases hc : c = k
      · have : xs.drop k = [] := List.length_eq_zero_iff.1 (by rw [List.length_drop, hx]; omega)
        rw [this]
        exact ⟨by simp, fun i hi => absurd hi (by simp)⟩
      · rw [if_neg hc]
        have h5 := h.drop k
        have e : f + k * E8.k = f + k := by show f + k * 1 = _; omega
        rw [e] at h5
        exact h5
    · split at e <;> cases e
theorem own_sp {N : Nat} {w : World} {a : Option Addr} {n c : Nat} {xs : List Nat} (h : OwnL E8 N w (.slice a n c) xs) : ∀ ad, a = some ad → ∃ b f, ad = ⟨b, f, none⟩ := fun ad e => by
  obtain ⟨bb, ff, sp⟩ := ad
  rcases h.row.2 with ⟨h1, -⟩ | ⟨g, cp, cur, h1, -⟩
  · injection h1 with h1 _ _; rw [e] at h1; cases h1
  · injection h1 with h1 _ _; rw [e] at h1; cases h1; exact ⟨_, _, rfl⟩
theorem moveP_x (s : Se) (now : Int) : (moveP s now).1.x.length ≤ s.x.length := by
  have h1 : ∀ (s : Se) (o : Ou) (m : Ms), (sendP s o m).1.x = s.x := fun s o m => by unfold sendP; split <;> rfl
  unfold moveP dueP
  split
  · exact Nat.le_refl _
  · split
    · exact Nat.zero_le _
    · split
      · rw [h1]; exact Nat.le_refl _
      · exact Nat.le_refl _
theorem A_ses {c : Cp} {bt i : Nat} {st : Sp} {w9 : World} (hi : i < 2) (hlt : ∀ g, c.A bt g → g < w9.heap.size) {P : Nat → Prop} (hP : ∀ g, P g → w9.heap.size ≤ g) (ha : ∀ g, fpS (c.b i) st g → ¬ P g) (g : Nat) (hg : P g) : ¬ ({ c with st := upd c.st i st } : Cp).A bt g := fun ⟨k, hk, hf⟩ => by
  by_cases e : k = 1 + i
  · subst e
    exact ha g ((F_s_at hi g).1 hf) hg
  · have := hlt g ⟨k, hk, F_s hi k e g hf⟩
    have := hP g hg
    omega
theorem evs_same (who : Nat) : ∀ (l : List Ev) (t : Tl), (l.foldl (evP who) t).clk = t.clk ∧ (l.foldl (evP who) t).s = t.s ∧ (l.foldl (evP who) t).y = t.y ∧ (l.foldl (evP who) t).g = t.g
  | [], t => ⟨rfl, rfl, rfl, rfl⟩
  | e :: l, t => by
    have h1 : (evP who t e).clk = t.clk ∧ (evP who t e).s = t.s ∧ (evP who t e).y = t.y ∧ (evP who t e).g = t.g := by unfold evP; split; exact ⟨rfl, rfl, rfl, rfl⟩; split; exact ⟨rfl, rfl, rfl, rfl⟩; exact ⟨rfl, rfl, rfl, rfl⟩
    have h2 := evs_same who l (evP who t e)
    rw [List.foldl_cons]
    exact ⟨h2.1.trans h1.1, h2.2.1.trans h1.2.1, h2.2.2.1.trans h1.2.2.1, h2.2.2.2.trans h1.2.2.2⟩
theorem outP_clk (t : Tl) (who : Nat) (o : Ou) : (outP t who o).clk = t.clk := (evs_same who o.ev _).1
def CmPost (N : Nat) (w : World) (bt : Nat) (c : Cp) (t' : Tl) (en : Ending) (w' : World) : Prop :=
  en = .returned (.bool true) ∧ ∃ c', TI N w' bt t' c' ∧ (c'.b = c.b ∧ c'.h = c.h) ∧ Kl w w' bt c c'
/-! the walks -/
set_option maxRecDepth 100000 in
set_option maxHeartbeats 16000000 in
theorem comes0_any (N bt : Nat) (t : Tl) (c : Cp) (n : Nat) (w : World) (h : TI N w bt t c) (hN : N ≤ w.heap.size) (hck : -9223372036854775808 ≤ t.clk ∧ t.clk < 9223372036854775808) (hly : (t.y 0).length ≤ 500000) (hlz : (t.y 1).length ≤ 300000000) (hlo : (t.o 0).length ≤ 1000000000) (hlu : 0 ≤ t.u 0 ∧ t.u 0 ≤ 1000000000) (t' : Tl) (hP : comesP t 0 (min n (t.y 0).length) = t') :
    Calls Try.prog 13 #[.pointer (some ⟨bt, 0, none⟩), .int .i64 0, .int .i64 (n : Int)] w (CmPost N w bt c t') := by
  have HT : Hid (TI N w bt t c) := h
  have HNN : Hid (N ≤ w.heap.size) := hN
  have HCK : Hid (-9223372036854775808 ≤ t.clk ∧ t.clk < 9223372036854775808) := hck
  have HLL : Hid ((t.y 0).length ≤ 500000 ∧ (t.y 1).length ≤ 300000000 ∧ (t.o 0).length ≤ 1000000000 ∧ (0 ≤ t.u 0 ∧ t.u 0 ≤ 1000000000)) := ⟨hly, hlz, hlo, hlu⟩
  obtain ⟨va9, vc9, hv9, hc9, hn9, -⟩ := (h.y 0 (by omega)).1.form
  obtain ⟨n9, hn9l⟩ : ∃ y, (t.y 0).length = y := ⟨_, rfl⟩
  rw [hn9l] at hv9 hc9 hn9 hP
  have HN9 : Hid ((t.y 0).length = n9) := hn9l
  have HV9 : Hid (c.w 0 = .slice va9 n9 vc9) := hv9
  have HNI9 : Hid (va9 = none → n9 = 0 ∧ vc9 = 0) := hn9
  have HO9 : Hid (OwnL E8 N w (.slice va9 n9 vc9) (t.y 0)) := by rw [← hv9]; exact (h.y 0 (by omega)).1
  have HSP9 : Hid (∀ ad, va9 = some ad → ∃ b f, ad = ⟨b, f, none⟩) := own_sp HO9.out
  have dw : w.cell? ⟨bt, 2, none⟩ = some (.slice va9 n9 vc9) := by rw [← hv9]; exact h.box.cell 2
  have hbtw : bt < w.heap.size := h.box.lt
  obtain ⟨k, hk⟩ : ∃ y, min n n9 = y := ⟨_, rfl⟩
  have hkn : k ≤ n9 := by omega
  have hkc : (k : Int) ≤ (vc9 : Int) := by omega
  have HMN : Hid (min (n : Int) (n9 : Int) = (k : Int)) := by show _ = _; omega
  have HP : Hid (comesP t 0 k = t') := by rw [← hk]; exact hP
  have hn5 : n9 ≤ 500000 := by rw [← hn9l]; exact hly
  obtain ⟨ho1, hb1⟩ := own_made0 E8 (W := w) rfl
  have HO1 : Hid (OwnL E8 w.heap.size (w.alloc (Obj.cells #[] 5)) (.slice (some ⟨w.heap.size, 0, none⟩) 0 0) []) := ho1
  have HB1 : Hid (Below w.heap.size w (w.alloc (Obj.cells #[] 5))) := hb1
  have HN1 : Hid (w.heap.size ≤ (w.alloc (Obj.cells #[] 5)).heap.size) := hb1.size
  have HL1 : Hid (([] : List Nat).length + k ≤ 1099511627775) := by show _ ≤ _; simp; omega
  have HT1 : Hid (Lst E8 (w.alloc (Obj.cells #[] 5)) va9 ((t.y 0).take k)) := (HO9.out.lst.1.bel hb1).take k
  have HNK : Hid (va9 = none → k = 0 ∧ vc9 = 0) := fun e => by have := hn9 e; omega
  have HTL : Hid (((t.y 0).take k).length = k) := by show _ = _; rw [List.length_take, hn9l]; omega
  clear h hN hck hly hlz hlo hlu hP hv9 hn9 hn9l hk ho1 hb1
  go_enter Try.func13, Try.ntmps13
  go_wp2_with (first | (at_builtin; refine list_appL E8 rfl _ _ 32 rfl rfl w.heap.size (.slice (some ⟨w.heap.size, 0, none⟩) 0 0) [] ((t.y 0).take k) va9 k vc9 _ HL1.out rfl HO1.out rfl HT1.out HNK.out HTL.out HN1.out ?_) | (refine list_min rfl _ _ rfl rfl rfl HMN.out ?_) | (refine list_slk rfl _ _ rfl (ao := va9) (n := n9) (c := vc9) (k := k) rfl rfl hkn hc9 HNI9.out HSP9.out ?_))
  intro v2 w2 ho2 hg2 ha2
  have HO2 : Hid (OwnL E8 w.heap.size w2 v2 ((t.y 0).take k)) := ho2.out
  have HB2 : Hid (Below w.heap.size w w2) := HB1.out.grown hg2.out HN1.out (fun g e => (HO1.out.row.lt g e).1)
  obtain ⟨pa, pq, hv2, hpq, -, -⟩ := HO2.out.form
  rw [HTL.out] at hv2 hpq
  subst hv2
  have HTI2 : Hid (TI N w2.drew bt t c) := (HT.out.bel HB2.out).bel (drew_bel w2)
  clear ho2 hg2 ha2 HO1 HB1 HN1 HL1 HT1 HNK
  go_wp2_with fail
  refine wp_region_held_drew (S := fun _ => True) (by kernel_rfl) trivial (fun hHeld => ?_)
  obtain ⟨X0, hX0⟩ : ∃ x, w2.drew = x := ⟨_, rfl⟩
  have HB0 : Hid (Below w.heap.size w X0) := by rw [← hX0]; exact HB2.out.trans ((drew_bel w2).mono HB2.out.size)
  have HO0 : Hid (OwnL E8 w.heap.size X0 (.slice pa k pq) ((t.y 0).take k)) := by rw [← hX0]; exact HO2.out.bel (drew_bel w2)
  rw [hX0] at HTI2 ⊢
  clear hX0 HO2 HB2
  obtain ⟨vd, hvd1, hvd2, hvd3⟩ := sln_ex (ao := va9) hkn hc9 HNI9.out HSP9.out
  have HVD1 : Hid (∀ (o : Oper) (ρ : Operand → Value) (W : World) (x lo : Operand), o.op = .slice 32 x (some lo) none none → ρ x = .slice va9 n9 vc9 → ρ lo = .int .i64 (k : Int) → (execOp ρ o).run Try.prog W = .ok (.value (.slice vd (n9 - k) (vc9 - k))) W) := hvd1
  have HVD2 : Hid (∀ (W : World) (xs : List Nat), xs.length = n9 → Lst E8 W va9 xs → Lst E8 W vd (xs.drop k)) := hvd2
  have HVD3 : Hid (vd = none → n9 - k = 0 ∧ vc9 - k = 0) := hvd3
  clear hvd1 hvd2 hvd3
  refine wpAnyH_take (i := 0) (v := ?_) rfl (by kernel_rfl) (by kernel_rfl) (by kernel_rfl) (fun _ _ _ h => h) (Or.inl ⟨by rfl, ?_⟩) (by assumption) ?_
  case refine_2 => intro W hSw; go_simp; try rfl
  try simp only [Act.put, List.getElem_toArray, List.getElem_cons_zero, List.getElem_cons_succ, List.setIfInBounds_toArray, List.set_cons_zero, List.set_cons_succ]
  refine wpAnyH_take (i := 1) (v := ?_) rfl (by kernel_rfl) (by kernel_rfl) (by kernel_rfl) (fun _ _ _ h => h) (Or.inl ⟨by rfl, ?_⟩) (by assumption) ?_
  case refine_2 => intro W hSw; go_simp; try rfl
  try simp only [Act.put, List.getElem_toArray, List.getElem_cons_zero, List.getElem_cons_succ, List.setIfInBounds_toArray, List.set_cons_zero, List.set_cons_succ]
  refine wpAnyH_take (i := 3) (v := ?_) rfl (by kernel_rfl) (by kernel_rfl) (by kernel_rfl) (fun _ _ _ h => h) (Or.inl ⟨by rfl, ?_⟩) (by assumption) ?_
  case refine_2 => intro W hSw; go_simp; try rfl
  try simp only [Act.put, List.getElem_toArray, List.getElem_cons_zero, List.getElem_cons_succ, List.setIfInBounds_toArray, List.set_cons_zero, List.set_cons_succ]
  refine wpAnyH_take (i := 4) (v := ?_) rfl (by kernel_rfl) (by kernel_rfl) (by kernel_rfl) (fun _ _ _ h => h) (Or.inl ⟨by rfl, ?_⟩) (by assumption) ?_
  case refine_2 => intro W hSw; go_simp; try rfl
  try simp only [Act.put, List.getElem_toArray, List.getElem_cons_zero, List.getElem_cons_succ, List.setIfInBounds_toArray, List.set_cons_zero, List.set_cons_succ]
  refine wpAnyH_take (i := 5) (v := ?_) rfl (by kernel_rfl) (by kernel_rfl) (by kernel_rfl) (fun _ _ _ h => h) (Or.inl ⟨by rfl, ?_⟩) (by assumption) ?_
  case refine_2 => intro W hSw; go_simp; try rfl
  try simp only [Act.put, List.getElem_toArray, List.getElem_cons_zero, List.getElem_cons_succ, List.setIfInBounds_toArray, List.set_cons_zero, List.set_cons_succ]
  refine wpAnyH_take (i := 6) (v := ?_) rfl (by kernel_rfl) (by kernel_rfl) (by kernel_rfl) (fun _ _ _ h => h) (Or.inl ⟨by rfl, ?_⟩) (by assumption) ?_
  case refine_2 => intro W hSw; go_simp; try rfl
  try simp only [Act.put, List.getElem_toArray, List.getElem_cons_zero, List.getElem_cons_succ, List.setIfInBounds_toArray, List.set_cons_zero, List.set_cons_succ]
  refine wpAnyH_take (i := 7) (v := .pointer (some ⟨bt, 2, none⟩)) rfl (by kernel_rfl) (by kernel_rfl) (by kernel_rfl) (fun _ _ _ h => h) (Or.inl ⟨by rfl, ?_⟩) (by assumption) ?_
  case refine_1 => intro W hSw; go_simp; try rfl
  try simp only [Act.put, List.getElem_toArray, List.getElem_cons_zero, List.getElem_cons_succ, List.setIfInBounds_toArray, List.set_cons_zero, List.set_cons_succ]
  refine wpAnyH_take (i := 9) (v := ?_) rfl (by kernel_rfl) (by kernel_rfl) (by kernel_rfl) (fun _ _ _ h => h) (Or.inl ⟨by rfl, ?_⟩) (by assumption) ?_
  case refine_2 => intro W hSw; go_simp; try rfl
  try simp only [Act.put, List.getElem_toArray, List.getElem_cons_zero, List.getElem_cons_succ, List.setIfInBounds_toArray, List.set_cons_zero, List.set_cons_succ]
  refine wpAnyH_take (i := 12) (v := ?_) rfl (by kernel_rfl) (by kernel_rfl) (by kernel_rfl) (fun _ _ _ h => h) (Or.inl ⟨by rfl, ?_⟩) (by assumption) ?_
  case refine_2 => intro W hSw; go_simp; try rfl
  try simp only [Act.put, List.getElem_toArray, List.getElem_cons_zero, List.getElem_cons_succ, List.setIfInBounds_toArray, List.set_cons_zero, List.set_cons_succ]
  refine wpAnyH_take (i := 13) (v := ?_) rfl (by kernel_rfl) (by kernel_rfl) (by kernel_rfl) (fun _ _ _ h => h) (Or.inl ⟨by rfl, ?_⟩) (by assumption) ?_
  case refine_2 => intro W hSw; go_simp; try rfl
  try simp only [Act.put, List.getElem_toArray, List.getElem_cons_zero, List.getElem_cons_succ, List.setIfInBounds_toArray, List.set_cons_zero, List.set_cons_succ]
  have c1 : X0.cell? ⟨bt, 2, none⟩ = some (.slice va9 n9 vc9) := by rw [← HV9.out]; exact HTI2.out.box.cell 2
  have HBT0 : Hid (bt < X0.heap.size) := HTI2.out.box.lt
  obtain ⟨ho6, hb6⟩ := own_made0 E8 (W := X0) rfl
  have HO6 : Hid (OwnL E8 X0.heap.size (X0.alloc (Obj.cells #[] 5)) (.slice (some ⟨X0.heap.size, 0, none⟩) 0 0) []) := ho6
  have HB6 : Hid (Below X0.heap.size X0 (X0.alloc (Obj.cells #[] 5))) := hb6
  have c2 : (X0.alloc (Obj.cells #[] 5)).cell? ⟨bt, 2, none⟩ = some (.slice va9 n9 vc9) := (World.cell?_of_block (w := X0) (hb6.block bt HBT0.out)).trans c1
  clear ho6 hb6
  refine wpAnyH_ready (rs := [2, 8]) (by kernel_rfl) (by simp) ?_
  refine AllReadyH.cons rfl (fun K hK => ?_) (AllReadyH.cons rfl (fun K hK => ?_) AllReadyH.nil)
  case' refine_1 =>
    go_simp
    refine hK.out _ _ trivial (fun hHeld => ?_)
    obtain ⟨X1, hX1⟩ : ∃ x, X0.alloc (Obj.cells #[] 5) = x := ⟨_, rfl⟩
    rw [hX1] at HB6 HO6 c2 ⊢
    clear hX1 hK K c1
    try simp only [Act.put, List.getElem_toArray, List.getElem_cons_zero, List.getElem_cons_succ, List.setIfInBounds_toArray, List.set_cons_zero, List.set_cons_succ]
    refine wpAnyH_ready (rs := [8]) (by kernel_rfl) (by simp) ?_
    refine AllReadyH.cons rfl (fun K hK => ?_) AllReadyH.nil
    go_simp
    refine hK.out _ _ trivial (fun hHeld => ?_)
    clear hK K c2
    try simp only [Act.put, List.getElem_toArray, List.getElem_cons_zero, List.getElem_cons_succ, List.setIfInBounds_toArray, List.set_cons_zero, List.set_cons_succ]
    refine wpAnyH_take (i := 10) (v := .slice vd (n9 - k) (vc9 - k)) rfl (by kernel_rfl) (by kernel_rfl) (by kernel_rfl) (fun _ _ _ h => h) (Or.inl ⟨by rfl, fun W _ => HVD1.out _ _ W (.tmp 35) (.tmp 36) rfl rfl rfl⟩) (by assumption) ?_
    try simp only [Act.put, List.getElem_toArray, List.getElem_cons_zero, List.getElem_cons_succ, List.setIfInBounds_toArray, List.set_cons_zero, List.set_cons_succ]
  case' refine_2 =>
    go_simp
    refine hK.out _ _ trivial (fun hHeld => ?_)
    clear hK K c1
    try simp only [Act.put, List.getElem_toArray, List.getElem_cons_zero, List.getElem_cons_succ, List.setIfInBounds_toArray, List.set_cons_zero, List.set_cons_succ]
    refine wpAnyH_take (i := 10) (v := .slice vd (n9 - k) (vc9 - k)) rfl (by kernel_rfl) (by kernel_rfl) (by kernel_rfl) (fun _ _ _ h => h) (Or.inl ⟨by rfl, fun W _ => HVD1.out _ _ W (.tmp 35) (.tmp 36) rfl rfl rfl⟩) (by assumption) ?_
    try simp only [Act.put, List.getElem_toArray, List.getElem_cons_zero, List.getElem_cons_succ, List.setIfInBounds_toArray, List.set_cons_zero, List.set_cons_succ]
    refine wpAnyH_ready (rs := [2]) (by kernel_rfl) (by simp) ?_
    refine AllReadyH.cons rfl (fun K hK => ?_) AllReadyH.nil
    go_simp
    refine hK.out _ _ trivial (fun hHeld => ?_)
    obtain ⟨X1, hX1⟩ : ∃ x, X0.alloc (Obj.cells #[] 5) = x := ⟨_, rfl⟩
    rw [hX1] at HB6 HO6 c2 ⊢
    clear hX1 hK K c2
    try simp only [Act.put, List.getElem_toArray, List.getElem_cons_zero, List.getElem_cons_succ, List.setIfInBounds_toArray, List.set_cons_zero, List.set_cons_succ]
  all_goals
    refine wpAnyH_ready (rs := [11]) (by kernel_rfl) (by simp) ?_
    refine AllReadyH.cons rfl (fun K hK => ?_) AllReadyH.nil
    have HL7 : Hid (([] : List Nat).length + (n9 - k) ≤ 1099511627775) := by show _ ≤ _; simp; omega
    have HS7 : Hid (Lst E8 X1 vd ((t.y 0).drop k)) := HVD2.out X1 _ HN9.out ((HO9.out.bel HB0.out).lst.1.bel HB6.out)
    have HD7 : Hid (((t.y 0).drop k).length = n9 - k) := by show _ = _; rw [List.length_drop, HN9.out]
    have HZ7 : Hid (X0.heap.size ≤ X1.heap.size) := HB6.out.size
    refine step_appL E8 _ _ 32 rfl rfl X0.heap.size (.slice (some ⟨X0.heap.size, 0, none⟩) 0 0) [] ((t.y 0).drop k) vd (n9 - k) (vc9 - k) X1 HL7.out rfl HO6.out rfl HS7.out HVD3.out HD7.out HZ7.out rfl (fun v7 X2 ho7 hg7 ha7 => ?_)
    refine hK.out _ _ trivial (fun hHeld => ?_)
    clear hK K
    have HB7 : Hid (Below X0.heap.size X0 X2) := HB6.out.grown hg7.out HZ7.out (fun g e => (HO6.out.row.lt g e).1)
    have HBX : Hid (SB TaK bt (taL t c) X2) := HTI2.out.box.blk (HB7.out.block bt HBT0.out)
    try simp only [Act.put, List.getElem_toArray, List.getElem_cons_zero, List.getElem_cons_succ, List.setIfInBounds_toArray, List.set_cons_zero, List.set_cons_succ]
    refine wpAnyH_take (i := 14) (v := .pointer (some ⟨bt, 2, none⟩)) rfl (by kernel_rfl) (by kernel_rfl) (by kernel_rfl) (fun _ _ _ h => h) (Or.inl ⟨by rfl, ?_⟩) (by assumption) ?_
    case refine_1 => intro W hSw; go_simp; try rfl
    try simp only [Act.put, List.getElem_toArray, List.getElem_cons_zero, List.getElem_cons_succ, List.setIfInBounds_toArray, List.set_cons_zero, List.set_cons_succ]
    refine wpAnyH_ready (rs := [15]) (by kernel_rfl) (by simp) ?_
    refine AllReadyH.cons rfl (fun K hK => ?_) AllReadyH.nil
    obtain ⟨va7, vc7, hv7, -⟩ := ho7.out.form
    obtain ⟨n7, hn7⟩ : ∃ y, (([] : List Nat) ++ (t.y 0).drop k).length = y := ⟨_, rfl⟩
    rw [hn7] at hv7
    subst hv7
    have HO7 : Hid (OwnL E8 X0.heap.size X2 (.slice va7 n7 vc7) ((t.y 0).drop k)) := ho7.out
    have f1 : X2.frozen? ⟨bt, 2, none⟩ = false := HBX.out.fro 2
    have c1 : X2.cell? ⟨bt, 2, none⟩ = some (c.w 0) := HBX.out.cell 2
    have HB8 : Hid (SB TaK bt (taL (wayP t 0 ((t.y 0).drop k)) { c with w := upd c.w 0 (.slice va7 n7 vc7) }) (X2.setCell ⟨bt, 2, none⟩ (.slice va7 n7 vc7))) := HBX.out.set 2 _ rfl
    have HK8 : Hid (Ko X2 bt (X2.setCell ⟨bt, 2, none⟩ (.slice va7 n7 vc7))) := Ko.set _ _ _ _
    have HVN : Hid (∃ q, X0.heap.size ≤ q ∧ (Value.slice va7 n7 vc7).ownBlock = some q) := by
      rcases ha7.out with e | e
      · exact ⟨X0.heap.size, Nat.le_refl _, e⟩
      · exact ⟨X1.heap.size, HZ7.out, e⟩
    have HW8 : Hid (TI N (X2.setCell ⟨bt, 2, none⟩ (.slice va7 n7 vc7)) bt (wayP t 0 ((t.y 0).drop k)) { c with w := upd c.w 0 (.slice va7 n7 vc7) } ∧ Kl X0 (X2.setCell ⟨bt, 2, none⟩ (.slice va7 n7 vc7)) bt c { c with w := upd c.w 0 (.slice va7 n7 vc7) }) := TI.way HTI2.out (by omega) HB7.out (HO7.out.mono (Nat.le_trans HNN.out HB0.out.size)) (drop_u8 (HTI2.out.y 0 (by omega)).2 k) ⟨rfl, rfl, rfl, Nat.le_refl _, fun _ _ _ => rfl⟩ (.inr HVN.out) HK8.out HB8.out
    go_simp
    refine hK.out _ _ trivial (fun hHeld => ?_)
    clear hK K f1 c1
    obtain ⟨w8, hw8⟩ : ∃ y, X2.setCell ⟨bt, 2, none⟩ (.slice va7 n7 vc7) = y := ⟨_, rfl⟩
    obtain ⟨c8, hc8⟩ : ∃ y, ({ c with w := upd c.w 0 (.slice va7 n7 vc7) } : Cp) = y := ⟨_, rfl⟩
    obtain ⟨t8, ht8⟩ : ∃ y, wayP t 0 ((t.y 0).drop k) = y := ⟨_, rfl⟩
    have HC8 : Hid (c8.b = c.b ∧ c8.st = c.st ∧ c8.h = c.h) := by rw [← hc8]; exact ⟨rfl, rfl, rfl⟩
    have HT8E : Hid (t8.s = t.s ∧ t8.clk = t.clk ∧ t8.o = t.o ∧ t8.u = t.u ∧ t8.y 1 = t.y 1 ∧ t8.g = t.g) := by rw [← ht8]; exact ⟨rfl, rfl, rfl, rfl, rfl, rfl⟩
    have HT8Q : Hid (wayP t 0 ((t.y 0).drop k) = t8) := ht8
    rw [hw8, hc8, ht8] at HW8
    rw [hw8]
    have HT8 : Hid (TI N w8 bt t8 c8) := HW8.out.1
    have HK8L : Hid (Kl X0 w8 bt c c8) := HW8.out.2
    clear hw8 hc8 ht8 HW8 HB8 HK8 HVN HO7 hn7 ho7 hg7 ha7 HBX HB7 HD7 HS7 HL7 HZ7 HO6 HB6
    try simp only [Act.put, List.getElem_toArray, List.getElem_cons_zero, List.getElem_cons_succ, List.setIfInBounds_toArray, List.set_cons_zero, List.set_cons_succ]
    refine wpAnyH_done (by kernel_rfl) ?_ _
    clear hHeld
    go_wp2_with fail
    have dS : w8.cell? ⟨bt, 0, none⟩ = some (.pointer (some ⟨c8.b 0, 0, none⟩)) := HT8.out.box.cell 0
    have dC : w8.cell? ⟨bt, 10, none⟩ = some (.int .i64 t8.clk) := HT8.out.box.cell 10
    refine wp_region_held_drew (S := fun W => W.cell? ⟨bt, 0, none⟩ = some (.pointer (some ⟨c8.b 0, 0, none⟩)) ∧ W.cell? ⟨bt, 10, none⟩ = some (.int .i64 t8.clk)) (by kernel_rfl) ⟨dS, dC⟩ (fun hHeld => ?_)
    obtain ⟨w9, hw9⟩ : ∃ y, w8.drew = y := ⟨_, rfl⟩
    have HT9 : Hid (TI N w9 bt t8 c8) := by rw [← hw9]; exact HT8.out.bel (drew_bel w8)
    have HK9 : Hid (Kl X0 w9 bt c c8) := by rw [← hw9]; exact ⟨HK8L.out.str.trans ((drew_bel w8).mono (Nat.zero_le _)), HK8L.out.blk, HK8L.out.now⟩
    rw [hw9] at hHeld ⊢
    clear hw9 dS dC HT8 HK8L
    refine wpAnyH_take (i := 0) (v := ?_) rfl (by kernel_rfl) (by kernel_rfl) (by kernel_rfl) (fun _ _ _ h => h) (Or.inl ⟨by rfl, ?_⟩) (by assumption) ?_
    case refine_2 => intro W hSw; go_simp; try rfl
    try simp only [Act.put, List.getElem_toArray, List.getElem_cons_zero, List.getElem_cons_succ, List.setIfInBounds_toArray, List.set_cons_zero, List.set_cons_succ]
    refine wpAnyH_take (i := 1) (v := ?_) rfl (by kernel_rfl) (by kernel_rfl) (by kernel_rfl) (fun _ _ _ h => h) (Or.inl ⟨by rfl, ?_⟩) (by assumption) ?_
    case refine_2 => intro W hSw; go_simp; try rfl
    try simp only [Act.put, List.getElem_toArray, List.getElem_cons_zero, List.getElem_cons_succ, List.setIfInBounds_toArray, List.set_cons_zero, List.set_cons_succ]
    refine wpAnyH_take (i := 2) (v := ?_) rfl (by kernel_rfl) (by kernel_rfl) (by kernel_rfl) (fun _ _ _ h => h) (Or.inl ⟨by rfl, ?_⟩) (by assumption) ?_
    case refine_2 => intro W hSw; go_simp; try rfl
    try simp only [Act.put, List.getElem_toArray, List.getElem_cons_zero, List.getElem_cons_succ, List.setIfInBounds_toArray, List.set_cons_zero, List.set_cons_succ]
    refine wpAnyH_take (i := 3) (v := ?_) rfl (by kernel_rfl) (by kernel_rfl) (by kernel_rfl) (fun _ _ _ h => h) (Or.inl ⟨by rfl, ?_⟩) (by assumption) ?_
    case refine_2 => intro W hSw; go_simp; try rfl
    try simp only [Act.put, List.getElem_toArray, List.getElem_cons_zero, List.getElem_cons_succ, List.setIfInBounds_toArray, List.set_cons_zero, List.set_cons_succ]
    refine wpAnyH_take (i := 4) (v := ?_) rfl (by kernel_rfl) (by kernel_rfl) (by kernel_rfl) (fun _ _ _ h => h) (Or.inl ⟨by rfl, ?_⟩) (by assumption) ?_
    case refine_2 => intro W hSw; go_simp; try rfl
    try simp only [Act.put, List.getElem_toArray, List.getElem_cons_zero, List.getElem_cons_succ, List.setIfInBounds_toArray, List.set_cons_zero, List.set_cons_succ]
    refine wpAnyH_take (i := 5) (v := ?_) rfl (by kernel_rfl) (by kernel_rfl) (by kernel_rfl) (fun _ _ _ h => h) (Or.inl ⟨by rfl, ?_⟩) (by assumption) ?_
    case refine_2 => intro W hSw; go_simp; try rfl
    try simp only [Act.put, List.getElem_toArray, List.getElem_cons_zero, List.getElem_cons_succ, List.setIfInBounds_toArray, List.set_cons_zero, List.set_cons_succ]
    refine wpAnyH_take (i := 6) (v := .pointer (some ⟨bt, 0, none⟩)) rfl (by kernel_rfl) (by kernel_rfl) (by kernel_rfl) (fun _ _ _ h => h) (Or.inl ⟨by rfl, ?_⟩) (by assumption) ?_
    case refine_1 => intro W hSw; go_simp; try rfl
    try simp only [Act.put, List.getElem_toArray, List.getElem_cons_zero, List.getElem_cons_succ, List.setIfInBounds_toArray, List.set_cons_zero, List.set_cons_succ]
    refine wpAnyH_take (i := 7) (v := .pointer (some ⟨c8.b 0, 0, none⟩)) rfl (by kernel_rfl) (by kernel_rfl) (by kernel_rfl) (fun _ _ _ h => h) (Or.inl ⟨by rfl, ?_⟩) (by assumption) ?_
    case refine_1 => intro W hSw; have cc := hSw.1; go_simp; try rfl
    try simp only [Act.put, List.getElem_toArray, List.getElem_cons_zero, List.getElem_cons_succ, List.setIfInBounds_toArray, List.set_cons_zero, List.set_cons_succ]
    refine wpAnyH_take (i := 8) (v := ?_) rfl (by kernel_rfl) (by kernel_rfl) (by kernel_rfl) (fun _ _ _ h => h) (Or.inl ⟨by rfl, ?_⟩) (by assumption) ?_
    case refine_2 => intro W hSw; go_simp; try rfl
    try simp only [Act.put, List.getElem_toArray, List.getElem_cons_zero, List.getElem_cons_succ, List.setIfInBounds_toArray, List.set_cons_zero, List.set_cons_succ]
    refine wpAnyH_take (i := 9) (v := ?_) rfl (by kernel_rfl) (by kernel_rfl) (by kernel_rfl) (fun _ _ _ h => h) (Or.inl ⟨by rfl, ?_⟩) (by assumption) ?_
    case refine_2 => intro W hSw; go_simp; try rfl
    try simp only [Act.put, List.getElem_toArray, List.getElem_cons_zero, List.getElem_cons_succ, List.setIfInBounds_toArray, List.set_cons_zero, List.set_cons_succ]
    refine wpAnyH_take (i := 10) (v := ?_) rfl (by kernel_rfl) (by kernel_rfl) (by kernel_rfl) (fun _ _ _ h => h) (Or.inl ⟨by rfl, ?_⟩) (by assumption) ?_
    case refine_2 => intro W hSw; go_simp; try rfl
    try simp only [Act.put, List.getElem_toArray, List.getElem_cons_zero, List.getElem_cons_succ, List.setIfInBounds_toArray, List.set_cons_zero, List.set_cons_succ]
    refine wpAnyH_take (i := 11) (v := ?_) rfl (by kernel_rfl) (by kernel_rfl) (by kernel_rfl) (fun _ _ _ h => h) (Or.inl ⟨by rfl, ?_⟩) (by assumption) ?_
    case refine_2 => intro W hSw; go_simp; try rfl
    try simp only [Act.put, List.getElem_toArray, List.getElem_cons_zero, List.getElem_cons_succ, List.setIfInBounds_toArray, List.set_cons_zero, List.set_cons_succ]
    refine wpAnyH_take (i := 12) (v := .int .i64 t8.clk) rfl (by kernel_rfl) (by kernel_rfl) (by kernel_rfl) (fun _ _ _ h => h) (Or.inl ⟨by rfl, ?_⟩) (by assumption) ?_
    case refine_1 => intro W hSw; have cc := hSw.2; go_simp; try rfl
    try simp only [Act.put, List.getElem_toArray, List.getElem_cons_zero, List.getElem_cons_succ, List.setIfInBounds_toArray, List.set_cons_zero, List.set_cons_succ]
    have HPA : Hid (∀ ad, pa = some ad → w.heap.size ≤ ad.block ∧ ad.block < X0.heap.size) := fun ad e => HO0.out.row.lt ad.block (by rw [e]; rfl)
    have HZ0 : Hid (w.heap.size ≤ X0.heap.size ∧ X0.heap.size ≤ w9.heap.size) := ⟨HB0.out.size, HK9.out.str.size⟩
    have HCA : Hid (∀ g, c.A bt g → g < w.heap.size) := HT.out.lt
    have HR9 : Hid (OwnL E8 w.heap.size w9 (.slice pa k pq) ((t.y 0).take k)) := HO0.out.blk (fun g e => HK9.out.blk g (HO0.out.row.lt g e).2 (fun e2 => by have := HCA.out g e2; have := (HO0.out.row.lt g e).1; omega))
    have HSES : Hid (Ses w9 (c8.b 0) (t8.s 0) (c8.st 0)) := HT9.out.e 0 (by omega)
    obtain ⟨s9, o9, hq⟩ : ∃ a b, recvP (t8.s 0) ((t.y 0).take k) t8.clk = (a, b) := ⟨_, _, rfl⟩
    have HQ9 : Hid (recvP (t8.s 0) ((t.y 0).take k) t8.clk = (s9, o9)) := hq
    have HOO := Oo.recv (t8.s 0) ((t.y 0).take k) t8.clk (by rw [HTL.out]; omega) (Nat.le_trans (moveP_x _ _) HSES.out.ok.2)
    rw [hq] at HOO
    have HO9P : Hid (Oo o9 ∧ o9.b.length ≤ 600000000 ∧ o9.ev.length ≤ 1000000) := HOO
    have HRC := recv_any (c8.b 0) (t8.s 0) (c8.st 0) pa k pq ((t.y 0).take k) t8.clk w9 HSES.out (by rw [HT8E.out.2.1]; exact HCK.out) HR9.out.lst.1 HTL.out hpq (take_u8 (HT.out.y 0 (by omega)).2 k) (fun ad e => by
      have h5 := HPA.out ad e
      refine ⟨fun hf => ?_, by have := HZ0.out.2; omega⟩
      have h6 : c.F bt 1 ad.block := by
        show fpS (c.b 0) (c.st 0) ad.block
        rw [← HC8.out.1, ← HC8.out.2.1]
        exact hf
      have := HCA.out _ ⟨1, by omega, h6⟩
      omega) (by omega) s9 o9 hq
    clear hq HOO
    refine wpAnyH_ready (rs := [13]) (by kernel_rfl) (by simp) ?_
    refine AllReadyH.cons rfl (fun K hK => ?_) AllReadyH.nil
    go_simp
    refine HRC.mono ?_
    rintro en w10 ⟨vb, ve, l, st', rfl, hs10, ho10, ha10, hk10⟩
    obtain ⟨ht10, hl10⟩ := TI.ses HT9.out (i := 0) (by omega) hs10 hk10
    obtain ⟨c10, hc10⟩ : ∃ y, ({ c8 with st := upd c8.st 0 st' } : Cp) = y := ⟨_, rfl⟩
    have HAV : Hid (∀ g, fpV vb ve l g → ¬ c10.A bt g) := by
      rw [← hc10]
      refine A_ses (w9 := w9) (by omega) HT9.out.lt (fun g hg => ?_) ha10
      rcases hg with e | e | ⟨p, hp, hm⟩
      · exact (ho10.bys.row.lt g e).1
      · exact (ho10.ev.own.row.lt g e).1
      · exact ((ho10.ev.each p hp).rng g hm).1
    have HC10 : Hid (c10.b = c8.b ∧ c10.h = c8.h) := by rw [← hc10]; exact ⟨rfl, rfl⟩
    rw [hc10] at ht10 hl10
    have HT10 : Hid (TI N w10 bt (sesP t8 0 s9) c10) := ht10
    have HL10 : Hid (Kl w9 w10 bt c8 c10) := hl10
    have HOV : Hid (OutV N w10 o9 vb ve l) := by
      have hz : N ≤ w9.heap.size := Nat.le_trans HNN.out (Nat.le_trans HZ0.out.1 HZ0.out.2)
      exact ⟨ho10.bys.mono hz, ⟨ho10.ev.own.mono hz, fun p hp => (ho10.ev.each p hp).mono hz, ho10.ev.ap, ho10.ev.pw⟩, ho10.eq, ho10.a1⟩
    have HML : Hid (∀ p ∈ l, ∀ g, Mown p.2 g → w9.heap.size ≤ g) := fun p hp g hm => ((ho10.ev.each p hp).rng g hm).1
    have HOUT := out0_any N bt (sesP t8 0 s9) c10 o9 vb ve l w10 HT10.out (Nat.le_trans HNN.out (Nat.le_trans HZ0.out.1 (Nat.le_trans HZ0.out.2 HL10.out.str.size))) HOV.out HAV.out HO9P.out.1.u8 HO9P.out.1.kd (by show (t8.y 1).length + _ ≤ _; rw [HT8E.out.2.2.2.2.1]; have := HLL.out.2.1; have := HO9P.out.2.1; omega) (by have := HO9P.out.2.2; omega) (by show (t8.o 0).length ≤ _; rw [HT8E.out.2.2.1]; exact HLL.out.2.2.1) (by show 0 ≤ t8.u 0 ∧ t8.u 0 ≤ _; rw [HT8E.out.2.2.2.1]; exact HLL.out.2.2.2) t' (by
      rw [← HP.out]
      unfold comesP
      have h5 := HQ9.out
      rw [HT8E.out.1, HT8E.out.2.1] at h5
      rw [h5, HT8Q.out]
      unfold sesP
      rw [HT8E.out.1])
    have hS10 : w10.cell? ⟨bt, 0, none⟩ = some (.pointer (some ⟨c8.b 0, 0, none⟩)) ∧ w10.cell? ⟨bt, 10, none⟩ = some (.int .i64 t8.clk) := by
      rw [← HC10.out.1]
      exact ⟨HT10.out.box.cell 0, HT10.out.box.cell 10⟩
    refine hK.out _ _ hS10 (fun hHeld => ?_)
    clear hK K hS10 HRC hs10 ho10 ha10 hk10 ht10 hl10 hc10
    try simp only [Act.put, List.getElem_toArray, List.getElem_cons_zero, List.getElem_cons_succ, List.setIfInBounds_toArray, List.set_cons_zero, List.set_cons_succ]
    refine wpAnyH_ready (rs := [14]) (by kernel_rfl) (by simp) ?_
    refine AllReadyH.cons rfl (fun K hK => ?_) AllReadyH.nil
    go_simp
    refine HOUT.mono ?_
    rintro en w11 ⟨rfl, c11, hti, hsb, hstr, hblk, hnow⟩
    have HR : Hid (CmPost N w bt c t' (.returned (.bool true)) w11) := by
      have z1 := HZ0.out
      have z2 := HL10.out.str.size
      refine ⟨rfl, c11, hti, ⟨hsb.1.trans (HC10.out.1.trans HC8.out.1), hsb.2.trans (HC10.out.2.trans HC8.out.2.2)⟩, ⟨(((HB0.out.mono (Nat.zero_le _)).trans HK9.out.str).trans HL10.out.str).trans hstr, fun g hg hn => ?_, fun g hg => ?_⟩⟩
      · have n8 : ¬ c8.A bt g := fun e => by
          rcases HK9.out.now g e with e2 | e2
          · exact hn e2
          · omega
        have n10 : ¬ c10.A bt g := fun e => by
          rcases HL10.out.now g e with e2 | e2
          · exact n8 e2
          · omega
        exact (((hblk g (by omega) n10 (fun p hp hm => by have := HML.out p hp g hm; omega)).trans (HL10.out.blk g (by omega) n8)).trans (HK9.out.blk g (by omega) hn)).trans (HB0.out.block g hg)
      · rcases hnow g hg with e | e | ⟨p, hp, hm⟩
        · rcases HL10.out.now g e with e2 | e2
          · rcases HK9.out.now g e2 with e3 | e3
            · exact .inl e3
            · exact .inr (by omega)
          · exact .inr (by omega)
        · exact .inr (by omega)
        · exact .inr (by have := HML.out p hp g hm; omega)
    have hS11 : w11.cell? ⟨bt, 0, none⟩ = some (.pointer (some ⟨c8.b 0, 0, none⟩)) ∧ w11.cell? ⟨bt, 10, none⟩ = some (.int .i64 t8.clk) := by
      have h5 : t'.clk = t8.clk := by
        rw [← HP.out]
        unfold comesP
        rw [outP_clk]
        exact HT8E.out.2.1.symm
      rw [← HC10.out.1, ← hsb.1, ← h5]
      exact ⟨hti.box.cell 0, hti.box.cell 10⟩
    refine hK.out _ _ hS11 (fun hHeld => ?_)
    clear hK K hS11 HOUT hti hsb hstr hblk hnow
    try simp only [Act.put, List.getElem_toArray, List.getElem_cons_zero, List.getElem_cons_succ, List.setIfInBounds_toArray, List.set_cons_zero, List.set_cons_succ]
    refine wpAnyH_take (i := 15) (v := ?_) rfl (by kernel_rfl) (by kernel_rfl) (by kernel_rfl) (fun _ _ _ h => h) (Or.inl ⟨by rfl, ?_⟩) (by assumption) ?_
    case refine_2 => intro W hSw; go_simp; try rfl
    try simp only [Act.put, List.getElem_toArray, List.getElem_cons_zero, List.getElem_cons_succ, List.setIfInBounds_toArray, List.set_cons_zero, List.set_cons_succ]
    refine wpAnyH_done (by kernel_rfl) ?_ _
    clear hHeld
    go_wp2_with fail
    go_ret
    exact HR.out
set_option maxRecDepth 100000 in
set_option maxHeartbeats 16000000 in
theorem comes1_any (N bt : Nat) (t : Tl) (c : Cp) (n : Nat) (w : World) (h : TI N w bt t c) (hN : N ≤ w.heap.size) (hck : -9223372036854775808 ≤ t.clk ∧ t.clk < 9223372036854775808) (hly : (t.y 1).length ≤ 500000) (hlz : (t.y 0).length ≤ 300000000) (hlo : (t.o 1).length ≤ 1000000000) (hlu : 0 ≤ t.u 1 ∧ t.u 1 ≤ 1000000000) (t' : Tl) (hP : comesP t 1 (min n (t.y 1).length) = t') :
    Calls Try.prog 13 #[.pointer (some ⟨bt, 0, none⟩), .int .i64 1, .int .i64 (n : Int)] w (CmPost N w bt c t') := by
  have HT : Hid (TI N w bt t c) := h
  have HNN : Hid (N ≤ w.heap.size) := hN
  have HCK : Hid (-9223372036854775808 ≤ t.clk ∧ t.clk < 9223372036854775808) := hck
  have HLL : Hid ((t.y 1).length ≤ 500000 ∧ (t.y 0).length ≤ 300000000 ∧ (t.o 1).length ≤ 1000000000 ∧ (0 ≤ t.u 1 ∧ t.u 1 ≤ 1000000000)) := ⟨hly, hlz, hlo, hlu⟩
  obtain ⟨va9, vc9, hv9, hc9, hn9, -⟩ := (h.y 1 (by omega)).1.form
  obtain ⟨n9, hn9l⟩ : ∃ y, (t.y 1).length = y := ⟨_, rfl⟩
  rw [hn9l] at hv9 hc9 hn9 hP
  have HN9 : Hid ((t.y 1).length = n9) := hn9l
  have HV9 : Hid (c.w 1 = .slice va9 n9 vc9) := hv9
  have HNI9 : Hid (va9 = none → n9 = 0 ∧ vc9 = 0) := hn9
  have HO9 : Hid (OwnL E8 N w (.slice va9 n9 vc9) (t.y 1)) := by rw [← hv9]; exact (h.y 1 (by omega)).1
  have HSP9 : Hid (∀ ad, va9 = some ad → ∃ b f, ad = ⟨b, f, none⟩) := own_sp HO9.out
  have dw : w.cell? ⟨bt, 3, none⟩ = some (.slice va9 n9 vc9) := by rw [← hv9]; exact h.box.cell 3
  have hbtw : bt < w.heap.size := h.box.lt
  obtain ⟨k, hk⟩ : ∃ y, min n n9 = y := ⟨_, rfl⟩
  have hkn : k ≤ n9 := by omega
  have hkc : (k : Int) ≤ (vc9 : Int) := by omega
  have HMN : Hid (min (n : Int) (n9 : Int) = (k : Int)) := by show _ = _; omega
  have HP : Hid (comesP t 1 k = t') := by rw [← hk]; exact hP
  have hn5 : n9 ≤ 500000 := by rw [← hn9l]; exact hly
  obtain ⟨ho1, hb1⟩ := own_made0 E8 (W := w) rfl
  have HO1 : Hid (OwnL E8 w.heap.size (w.alloc (Obj.cells #[] 5)) (.slice (some ⟨w.heap.size, 0, none⟩) 0 0) []) := ho1
  have HB1 : Hid (Below w.heap.size w (w.alloc (Obj.cells #[] 5))) := hb1
  have HN1 : Hid (w.heap.size ≤ (w.alloc (Obj.cells #[] 5)).heap.size) := hb1.size
  have HL1 : Hid (([] : List Nat).length + k ≤ 1099511627775) := by show _ ≤ _; simp; omega
  have HT1 : Hid (Lst E8 (w.alloc (Obj.cells #[] 5)) va9 ((t.y 1).take k)) := (HO9.out.lst.1.bel hb1).take k
  have HNK : Hid (va9 = none → k = 0 ∧ vc9 = 0) := fun e => by have := hn9 e; omega
  have HTL : Hid (((t.y 1).take k).length = k) := by show _ = _; rw [List.length_take, hn9l]; omega
  clear h hN hck hly hlz hlo hlu hP hv9 hn9 hn9l hk ho1 hb1
  go_enter Try.func13, Try.ntmps13
  go_wp2_with (first | (at_builtin; refine list_appL E8 rfl _ _ 32 rfl rfl w.heap.size (.slice (some ⟨w.heap.size, 0, none⟩) 0 0) [] ((t.y 1).take k) va9 k vc9 _ HL1.out rfl HO1.out rfl HT1.out HNK.out HTL.out HN1.out ?_) | (refine list_min rfl _ _ rfl rfl rfl HMN.out ?_) | (refine list_slk rfl _ _ rfl (ao := va9) (n := n9) (c := vc9) (k := k) rfl rfl hkn hc9 HNI9.out HSP9.out ?_))
  intro v2 w2 ho2 hg2 ha2
  have HO2 : Hid (OwnL E8 w.heap.size w2 v2 ((t.y 1).take k)) := ho2.out
  have HB2 : Hid (Below w.heap.size w w2) := HB1.out.grown hg2.out HN1.out (fun g e => (HO1.out.row.lt g e).1)
  obtain ⟨pa, pq, hv2, hpq, -, -⟩ := HO2.out.form
  rw [HTL.out] at hv2 hpq
  subst hv2
  have HTI2 : Hid (TI N w2.drew bt t c) := (HT.out.bel HB2.out).bel (drew_bel w2)
  clear ho2 hg2 ha2 HO1 HB1 HN1 HL1 HT1 HNK
  go_wp2_with fail
  refine wp_region_held_drew (S := fun _ => True) (by kernel_rfl) trivial (fun hHeld => ?_)
  obtain ⟨X0, hX0⟩ : ∃ x, w2.drew = x := ⟨_, rfl⟩
  have HB0 : Hid (Below w.heap.size w X0) := by rw [← hX0]; exact HB2.out.trans ((drew_bel w2).mono HB2.out.size)
  have HO0 : Hid (OwnL E8 w.heap.size X0 (.slice pa k pq) ((t.y 1).take k)) := by rw [← hX0]; exact HO2.out.bel (drew_bel w2)
  rw [hX0] at HTI2 ⊢
  clear hX0 HO2 HB2
  obtain ⟨vd, hvd1, hvd2, hvd3⟩ := sln_ex (ao := va9) hkn hc9 HNI9.out HSP9.out
  have HVD1 : Hid (∀ (o : Oper) (ρ : Operand → Value) (W : World) (x lo : Operand), o.op = .slice 32 x (some lo) none none → ρ x = .slice va9 n9 vc9 → ρ lo = .int .i64 (k : Int) → (execOp ρ o).run Try.prog W = .ok (.value (.slice vd (n9 - k) (vc9 - k))) W) := hvd1
  have HVD2 : Hid (∀ (W : World) (xs : List Nat), xs.length = n9 → Lst E8 W va9 xs → Lst E8 W vd (xs.drop k)) := hvd2
  have HVD3 : Hid (vd = none → n9 - k = 0 ∧ vc9 - k = 0) := hvd3
  clear hvd1 hvd2 hvd3
  refine wpAnyH_take (i := 0) (v := ?_) rfl (by kernel_rfl) (by kernel_rfl) (by kernel_rfl) (fun _ _ _ h => h) (Or.inl ⟨by rfl, ?_⟩) (by assumption) ?_
  case refine_2 => intro W hSw; go_simp; try rfl
  try simp only [Act.put, List.getElem_toArray, List.getElem_cons_zero, List.getElem_cons_succ, List.setIfInBounds_toArray, List.set_cons_zero, List.set_cons_succ]
  refine wpAnyH_take (i := 1) (v := ?_) rfl (by kernel_rfl) (by kernel_rfl) (by kernel_rfl) (fun _ _ _ h => h) (Or.inl ⟨by rfl, ?_⟩) (by assumption) ?_
  case refine_2 => intro W hSw; go_simp; try rfl
  try simp only [Act.put, List.getElem_toArray, List.getElem_cons_zero, List.getElem_cons_succ, List.setIfInBounds_toArray, List.set_cons_zero, List.set_cons_succ]
  refine wpAnyH_take (i := 3) (v := ?_) rfl (by kernel_rfl) (by kernel_rfl) (by kernel_rfl) (fun _ _ _ h => h) (Or.inl ⟨by rfl, ?_⟩) (by assumption) ?_
  case refine_2 => intro W hSw; go_simp; try rfl
  try simp only [Act.put, List.getElem_toArray, List.getElem_cons_zero, List.getElem_cons_succ, List.setIfInBounds_toArray, List.set_cons_zero, List.set_cons_succ]
  refine wpAnyH_take (i := 4) (v := ?_) rfl (by kernel_rfl) (by kernel_rfl) (by kernel_rfl) (fun _ _ _ h => h) (Or.inl ⟨by rfl, ?_⟩) (by assumption) ?_
  case refine_2 => intro W hSw; go_simp; try rfl
  try simp only [Act.put, List.getElem_toArray, List.getElem_cons_zero, List.getElem_cons_succ, List.setIfInBounds_toArray, List.set_cons_zero, List.set_cons_succ]
  refine wpAnyH_take (i := 5) (v := ?_) rfl (by kernel_rfl) (by kernel_rfl) (by kernel_rfl) (fun _ _ _ h => h) (Or.inl ⟨by rfl, ?_⟩) (by assumption) ?_
  case refine_2 => intro W hSw; go_simp; try rfl
  try simp only [Act.put, List.getElem_toArray, List.getElem_cons_zero, List.getElem_cons_succ, List.setIfInBounds_toArray, List.set_cons_zero, List.set_cons_succ]
  refine wpAnyH_take (i := 6) (v := ?_) rfl (by kernel_rfl) (by kernel_rfl) (by kernel_rfl) (fun _ _ _ h => h) (Or.inl ⟨by rfl, ?_⟩) (by assumption) ?_
  case refine_2 => intro W hSw; go_simp; try rfl
  try simp only [Act.put, List.getElem_toArray, List.getElem_cons_zero, List.getElem_cons_succ, List.setIfInBounds_toArray, List.set_cons_zero, List.set_cons_succ]
  refine wpAnyH_take (i := 7) (v := .pointer (some ⟨bt, 3, none⟩)) rfl (by kernel_rfl) (by kernel_rfl) (by kernel_rfl) (fun _ _ _ h => h) (Or.inl ⟨by rfl, ?_⟩) (by assumption) ?_
  case refine_1 => intro W hSw; go_simp; try rfl
  try simp only [Act.put, List.getElem_toArray, List.getElem_cons_zero, List.getElem_cons_succ, List.setIfInBounds_toArray, List.set_cons_zero, List.set_cons_succ]
  refine wpAnyH_take (i := 9) (v := ?_) rfl (by kernel_rfl) (by kernel_rfl) (by kernel_rfl) (fun _ _ _ h => h) (Or.inl ⟨by rfl, ?_⟩) (by assumption) ?_
  case refine_2 => intro W hSw; go_simp; try rfl
  try simp only [Act.put, List.getElem_toArray, List.getElem_cons_zero, List.getElem_cons_succ, List.setIfInBounds_toArray, List.set_cons_zero, List.set_cons_succ]
  refine wpAnyH_take (i := 12) (v := ?_) rfl (by kernel_rfl) (by kernel_rfl) (by kernel_rfl) (fun _ _ _ h => h) (Or.inl ⟨by rfl, ?_⟩) (by assumption) ?_
  case refine_2 => intro W hSw; go_simp; try rfl
  try simp only [Act.put, List.getElem_toArray, List.getElem_cons_zero, List.getElem_cons_succ, List.setIfInBounds_toArray, List.set_cons_zero, List.set_cons_succ]
  refine wpAnyH_take (i := 13) (v := ?_) rfl (by kernel_rfl) (by kernel_rfl) (by kernel_rfl) (fun _ _ _ h => h) (Or.inl ⟨by rfl, ?_⟩) (by assumption) ?_
  case refine_2 => intro W hSw; go_simp; try rfl
  try simp only [Act.put, List.getElem_toArray, List.getElem_cons_zero, List.getElem_cons_succ, List.setIfInBounds_toArray, List.set_cons_zero, List.set_cons_succ]
  have c1 : X0.cell? ⟨bt, 3, none⟩ = some (.slice va9 n9 vc9) := by rw [← HV9.out]; exact HTI2.out.box.cell 3
  have HBT0 : Hid (bt < X0.heap.size) := HTI2.out.box.lt
  obtain ⟨ho6, hb6⟩ := own_made0 E8 (W := X0) rfl
  have HO6 : Hid (OwnL E8 X0.heap.size (X0.alloc (Obj.cells #[] 5)) (.slice (some ⟨X0.heap.size, 0, none⟩) 0 0) []) := ho6
  have HB6 : Hid (Below X0.heap.size X0 (X0.alloc (Obj.cells #[] 5))) := hb6
  have c2 : (X0.alloc (Obj.cells #[] 5)).cell? ⟨bt, 3, none⟩ = some (.slice va9 n9 vc9) := (World.cell?_of_block (w := X0) (hb6.block bt HBT0.out)).trans c1
  clear ho6 hb6
  refine wpAnyH_ready (rs := [2, 8]) (by kernel_rfl) (by simp) ?_
  refine AllReadyH.cons rfl (fun K hK => ?_) (AllReadyH.cons rfl (fun K hK => ?_) AllReadyH.nil)
  case' refine_1 =>
    go_simp
    refine hK.out _ _ trivial (fun hHeld => ?_)
    obtain ⟨X1, hX1⟩ : ∃ x, X0.alloc (Obj.cells #[] 5) = x := ⟨_, rfl⟩
    rw [hX1] at HB6 HO6 c2 ⊢
    clear hX1 hK K c1
    try simp only [Act.put, List.getElem_toArray, List.getElem_cons_zero, List.getElem_cons_succ, List.setIfInBounds_toArray, List.set_cons_zero, List.set_cons_succ]
    refine wpAnyH_ready (rs := [8]) (by kernel_rfl) (by simp) ?_
    refine AllReadyH.cons rfl (fun K hK => ?_) AllReadyH.nil
    go_simp
    refine hK.out _ _ trivial (fun hHeld => ?_)
    clear hK K c2
    try simp only [Act.put, List.getElem_toArray, List.getElem_cons_zero, List.getElem_cons_succ, List.setIfInBounds_toArray, List.set_cons_zero, List.set_cons_succ]
    refine wpAnyH_take (i := 10) (v := .slice vd (n9 - k) (vc9 - k)) rfl (by kernel_rfl) (by kernel_rfl) (by kernel_rfl) (fun _ _ _ h => h) (Or.inl ⟨by rfl, fun W _ => HVD1.out _ _ W (.tmp 35) (.tmp 36) rfl rfl rfl⟩) (by assumption) ?_
    try simp only [Act.put, List.getElem_toArray, List.getElem_cons_zero, List.getElem_cons_succ, List.setIfInBounds_toArray, List.set_cons_zero, List.set_cons_succ]
  case' refine_2 =>
    go_simp
    refine hK.out _ _ trivial (fun hHeld => ?_)
    clear hK K c1
    try simp only [Act.put, List.getElem_toArray, List.getElem_cons_zero, List.getElem_cons_succ, List.setIfInBounds_toArray, List.set_cons_zero, List.set_cons_succ]
    refine wpAnyH_take (i := 10) (v := .slice vd (n9 - k) (vc9 - k)) rfl (by kernel_rfl) (by kernel_rfl) (by kernel_rfl) (fun _ _ _ h => h) (Or.inl ⟨by rfl, fun W _ => HVD1.out _ _ W (.tmp 35) (.tmp 36) rfl rfl rfl⟩) (by assumption) ?_
    try simp only [Act.put, List.getElem_toArray, List.getElem_cons_zero, List.getElem_cons_succ, List.setIfInBounds_toArray, List.set_cons_zero, List.set_cons_succ]
    refine wpAnyH_ready (rs := [2]) (by kernel_rfl) (by simp) ?_
    refine AllReadyH.cons rfl (fun K hK => ?_) AllReadyH.nil
    go_simp
    refine hK.out _ _ trivial (fun hHeld => ?_)
    obtain ⟨X1, hX1⟩ : ∃ x, X0.alloc (Obj.cells #[] 5) = x := ⟨_, rfl⟩
    rw [hX1] at HB6 HO6 c2 ⊢
    clear hX1 hK K c2
    try simp only [Act.put, List.getElem_toArray, List.getElem_cons_zero, List.getElem_cons_succ, List.setIfInBounds_toArray, List.set_cons_zero, List.set_cons_succ]
  all_goals
    refine wpAnyH_ready (rs := [11]) (by kernel_rfl) (by simp) ?_
    refine AllReadyH.cons rfl (fun K hK => ?_) AllReadyH.nil
    have HL7 : Hid (([] : List Nat).length + (n9 - k) ≤ 1099511627775) := by show _ ≤ _; simp; omega
    have HS7 : Hid (Lst E8 X1 vd ((t.y 1).drop k)) := HVD2.out X1 _ HN9.out ((HO9.out.bel HB0.out).lst.1.bel HB6.out)
    have HD7 : Hid (((t.y 1).drop k).length = n9 - k) := by show _ = _; rw [List.length_drop, HN9.out]
    have HZ7 : Hid (X0.heap.size ≤ X1.heap.size) := HB6.out.size
    refine step_appL E8 _ _ 32 rfl rfl X0.heap.size (.slice (some ⟨X0.heap.size, 0, none⟩) 0 0) [] ((t.y 1).drop k) vd (n9 - k) (vc9 - k) X1 HL7.out rfl HO6.out rfl HS7.out HVD3.out HD7.out HZ7.out rfl (fun v7 X2 ho7 hg7 ha7 => ?_)
    refine hK.out _ _ trivial (fun hHeld => ?_)
    clear hK K
    have HB7 : Hid (Below X0.heap.size X0 X2) := HB6.out.grown hg7.out HZ7.out (fun g e => (HO6.out.row.lt g e).1)
    have HBX : Hid (SB TaK bt (taL t c) X2) := HTI2.out.box.blk (HB7.out.block bt HBT0.out)
    try simp only [Act.put, List.getElem_toArray, List.getElem_cons_zero, List.getElem_cons_succ, List.setIfInBounds_toArray, List.set_cons_zero, List.set_cons_succ]
    refine wpAnyH_take (i := 14) (v := .pointer (some ⟨bt, 3, none⟩)) rfl (by kernel_rfl) (by kernel_rfl) (by kernel_rfl) (fun _ _ _ h => h) (Or.inl ⟨by rfl, ?_⟩) (by assumption) ?_
    case refine_1 => intro W hSw; go_simp; try rfl
    try simp only [Act.put, List.getElem_toArray, List.getElem_cons_zero, List.getElem_cons_succ, List.setIfInBounds_toArray, List.set_cons_zero, List.set_cons_succ]
    refine wpAnyH_ready (rs := [15]) (by kernel_rfl) (by simp) ?_
    refine AllReadyH.cons rfl (fun K hK => ?_) AllReadyH.nil
    obtain ⟨va7, vc7, hv7, -⟩ := ho7.out.form
    obtain ⟨n7, hn7⟩ : ∃ y, (([] : List Nat) ++ (t.y 1).drop k).length = y := ⟨_, rfl⟩
    rw [hn7] at hv7
    subst hv7
    have HO7 : Hid (OwnL E8 X0.heap.size X2 (.slice va7 n7 vc7) ((t.y 1).drop k)) := ho7.out
    have f1 : X2.frozen? ⟨bt, 3, none⟩ = false := HBX.out.fro 3
    have c1 : X2.cell? ⟨bt, 3, none⟩ = some (c.w 1) := HBX.out.cell 3
    have HB8 : Hid (SB TaK bt (taL (wayP t 1 ((t.y 1).drop k)) { c with w := upd c.w 1 (.slice va7 n7 vc7) }) (X2.setCell ⟨bt, 3, none⟩ (.slice va7 n7 vc7))) := HBX.out.set 3 _ rfl
    have HK8 : Hid (Ko X2 bt (X2.setCell ⟨bt, 3, none⟩ (.slice va7 n7 vc7))) := Ko.set _ _ _ _
    have HVN : Hid (∃ q, X0.heap.size ≤ q ∧ (Value.slice va7 n7 vc7).ownBlock = some q) := by
      rcases ha7.out with e | e
      · exact ⟨X0.heap.size, Nat.le_refl _, e⟩
      · exact ⟨X1.heap.size, HZ7.out, e⟩
    have HW8 : Hid (TI N (X2.setCell ⟨bt, 3, none⟩ (.slice va7 n7 vc7)) bt (wayP t 1 ((t.y 1).drop k)) { c with w := upd c.w 1 (.slice va7 n7 vc7) } ∧ Kl X0 (X2.setCell ⟨bt, 3, none⟩ (.slice va7 n7 vc7)) bt c { c with w := upd c.w 1 (.slice va7 n7 vc7) }) := TI.way HTI2.out (by omega) HB7.out (HO7.out.mono (Nat.le_trans HNN.out HB0.out.size)) (drop_u8 (HTI2.out.y 1 (by omega)).2 k) ⟨rfl, rfl, rfl, Nat.le_refl _, fun _ _ _ => rfl⟩ (.inr HVN.out) HK8.out HB8.out
    go_simp
    refine hK.out _ _ trivial (fun hHeld => ?_)
    clear hK K f1 c1
    obtain ⟨w8, hw8⟩ : ∃ y, X2.setCell ⟨bt, 3, none⟩ (.slice va7 n7 vc7) = y := ⟨_, rfl⟩
    obtain ⟨c8, hc8⟩ : ∃ y, ({ c with w := upd c.w 1 (.slice va7 n7 vc7) } : Cp) = y := ⟨_, rfl⟩
    obtain ⟨t8, ht8⟩ : ∃ y, wayP t 1 ((t.y 1).drop k) = y := ⟨_, rfl⟩
    have HC8 : Hid (c8.b = c.b ∧ c8.st = c.st ∧ c8.h = c.h) := by rw [← hc8]; exact ⟨rfl, rfl, rfl⟩
    have HT8E : Hid (t8.s = t.s ∧ t8.clk = t.clk ∧ t8.o = t.o ∧ t8.u = t.u ∧ t8.y 0 = t.y 0 ∧ t8.g = t.g) := by rw [← ht8]; exact ⟨rfl, rfl, rfl, rfl, rfl, rfl⟩
    have HT8Q : Hid (wayP t 1 ((t.y 1).drop k) = t8) := ht8
    rw [hw8, hc8, ht8] at HW8
    rw [hw8]
    have HT8 : Hid (TI N w8 bt t8 c8) := HW8.out.1
    have HK8L : Hid (Kl X0 w8 bt c c8) := HW8.out.2
    clear hw8 hc8 ht8 HW8 HB8 HK8 HVN HO7 hn7 ho7 hg7 ha7 HBX HB7 HD7 HS7 HL7 HZ7 HO6 HB6
    try simp only [Act.put, List.getElem_toArray, List.getElem_cons_zero, List.getElem_cons_succ, List.setIfInBounds_toArray, List.set_cons_zero, List.set_cons_succ]
    refine wpAnyH_done (by kernel_rfl) ?_ _
    clear hHeld
    go_wp2_with fail
    have dS : w8.cell? ⟨bt, 1, none⟩ = some (.pointer (some ⟨c8.b 1, 0, none⟩)) := HT8.out.box.cell 1
    have dC : w8.cell? ⟨bt, 10, none⟩ = some (.int .i64 t8.clk) := HT8.out.box.cell 10
    refine wp_region_held_drew (S := fun W => W.cell? ⟨bt, 1, none⟩ = some (.pointer (some ⟨c8.b 1, 0, none⟩)) ∧ W.cell? ⟨bt, 10, none⟩ = some (.int .i64 t8.clk)) (by kernel_rfl) ⟨dS, dC⟩ (fun hHeld => ?_)
    obtain ⟨w9, hw9⟩ : ∃ y, w8.drew = y := ⟨_, rfl⟩
    have HT9 : Hid (TI N w9 bt t8 c8) := by rw [← hw9]; exact HT8.out.bel (drew_bel w8)
    have HK9 : Hid (Kl X0 w9 bt c c8) := by rw [← hw9]; exact ⟨HK8L.out.str.trans ((drew_bel w8).mono (Nat.zero_le _)), HK8L.out.blk, HK8L.out.now⟩
    rw [hw9] at hHeld ⊢
    clear hw9 dS dC HT8 HK8L
    refine wpAnyH_take (i := 0) (v := ?_) rfl (by kernel_rfl) (by kernel_rfl) (by kernel_rfl) (fun _ _ _ h => h) (Or.inl ⟨by rfl, ?_⟩) (by assumption) ?_
    case refine_2 => intro W hSw; go_simp; try rfl
    try simp only [Act.put, List.getElem_toArray, List.getElem_cons_zero, List.getElem_cons_succ, List.setIfInBounds_toArray, List.set_cons_zero, List.set_cons_succ]
    refine wpAnyH_take (i := 1) (v := ?_) rfl (by kernel_rfl) (by kernel_rfl) (by kernel_rfl) (fun _ _ _ h => h) (Or.inl ⟨by rfl, ?_⟩) (by assumption) ?_
    case refine_2 => intro W hSw; go_simp; try rfl
    try simp only [Act.put, List.getElem_toArray, List.getElem_cons_zero, List.getElem_cons_succ, List.setIfInBounds_toArray, List.set_cons_zero, List.set_cons_succ]
    refine wpAnyH_take (i := 2) (v := ?_) rfl (by kernel_rfl) (by kernel_rfl) (by kernel_rfl) (fun _ _ _ h => h) (Or.inl ⟨by rfl, ?_⟩) (by assumption) ?_
    case refine_2 => intro W hSw; go_simp; try rfl
    try simp only [Act.put, List.getElem_toArray, List.getElem_cons_zero, List.getElem_cons_succ, List.setIfInBounds_toArray, List.set_cons_zero, List.set_cons_succ]
    refine wpAnyH_take (i := 3) (v := ?_) rfl (by kernel_rfl) (by kernel_rfl) (by kernel_rfl) (fun _ _ _ h => h) (Or.inl ⟨by rfl, ?_⟩) (by assumption) ?_
    case refine_2 => intro W hSw; go_simp; try rfl
    try simp only [Act.put, List.getElem_toArray, List.getElem_cons_zero, List.getElem_cons_succ, List.setIfInBounds_toArray, List.set_cons_zero, List.set_cons_succ]
    refine wpAnyH_take (i := 4) (v := ?_) rfl (by kernel_rfl) (by kernel_rfl) (by kernel_rfl) (fun _ _ _ h => h) (Or.inl ⟨by rfl, ?_⟩) (by assumption) ?_
    case refine_2 => intro W hSw; go_simp; try rfl
    try simp only [Act.put, List.getElem_toArray, List.getElem_cons_zero, List.getElem_cons_succ, List.setIfInBounds_toArray, List.set_cons_zero, List.set_cons_succ]
    refine wpAnyH_take (i := 5) (v := ?_) rfl (by kernel_rfl) (by kernel_rfl) (by kernel_rfl) (fun _ _ _ h => h) (Or.inl ⟨by rfl, ?_⟩) (by assumption) ?_
    case refine_2 => intro W hSw; go_simp; try rfl
    try simp only [Act.put, List.getElem_toArray, List.getElem_cons_zero, List.getElem_cons_succ, List.setIfInBounds_toArray, List.set_cons_zero, List.set_cons_succ]
    refine wpAnyH_take (i := 6) (v := .pointer (some ⟨bt, 1, none⟩)) rfl (by kernel_rfl) (by kernel_rfl) (by kernel_rfl) (fun _ _ _ h => h) (Or.inl ⟨by rfl, ?_⟩) (by assumption) ?_
    case refine_1 => intro W hSw; go_simp; try rfl
    try simp only [Act.put, List.getElem_toArray, List.getElem_cons_zero, List.getElem_cons_succ, List.setIfInBounds_toArray, List.set_cons_zero, List.set_cons_succ]
    refine wpAnyH_take (i := 7) (v := .pointer (some ⟨c8.b 1, 0, none⟩)) rfl (by kernel_rfl) (by kernel_rfl) (by kernel_rfl) (fun _ _ _ h => h) (Or.inl ⟨by rfl, ?_⟩) (by assumption) ?_
    case refine_1 => intro W hSw; have cc := hSw.1; go_simp; try rfl
    try simp only [Act.put, List.getElem_toArray, List.getElem_cons_zero, List.getElem_cons_succ, List.setIfInBounds_toArray, List.set_cons_zero, List.set_cons_succ]
    refine wpAnyH_take (i := 8) (v := ?_) rfl (by kernel_rfl) (by kernel_rfl) (by kernel_rfl) (fun _ _ _ h => h) (Or.inl ⟨by rfl, ?_⟩) (by assumption) ?_
    case refine_2 => intro W hSw; go_simp; try rfl
    try simp only [Act.put, List.getElem_toArray, List.getElem_cons_zero, List.getElem_cons_succ, List.setIfInBounds_toArray, List.set_cons_zero, List.set_cons_succ]
    refine wpAnyH_take (i := 9) (v := ?_) rfl (by kernel_rfl) (by kernel_rfl) (by kernel_rfl) (fun _ _ _ h => h) (Or.inl ⟨by rfl, ?_⟩) (by assumption) ?_
    case refine_2 => intro W hSw; go_simp; try rfl
    try simp only [Act.put, List.getElem_toArray, List.getElem_cons_zero, List.getElem_cons_succ, List.setIfInBounds_toArray, List.set_cons_zero, List.set_cons_succ]
    refine wpAnyH_take (i := 10) (v := ?_) rfl (by kernel_rfl) (by kernel_rfl) (by kernel_rfl) (fun _ _ _ h => h) (Or.inl ⟨by rfl, ?_⟩) (by assumption) ?_
    case refine_2 => intro W hSw; go_simp; try rfl
    try simp only [Act.put, List.getElem_toArray, List.getElem_cons_zero, List.getElem_cons_succ, List.setIfInBounds_toArray, List.set_cons_zero, List.set_cons_succ]
    refine wpAnyH_take (i := 11) (v := ?_) rfl (by kernel_rfl) (by kernel_rfl) (by kernel_rfl) (fun _ _ _ h => h) (Or.inl ⟨by rfl, ?_⟩) (by assumption) ?_
    case refine_2 => intro W hSw; go_simp; try rfl
    try simp only [Act.put, List.getElem_toArray, List.getElem_cons_zero, List.getElem_cons_succ, List.setIfInBounds_toArray, List.set_cons_zero, List.set_cons_succ]
    refine wpAnyH_take (i := 12) (v := .int .i64 t8.clk) rfl (by kernel_rfl) (by kernel_rfl) (by kernel_rfl) (fun _ _ _ h => h) (Or.inl ⟨by rfl, ?_⟩) (by assumption) ?_
    case refine_1 => intro W hSw; have cc := hSw.2; go_simp; try rfl
    try simp only [Act.put, List.getElem_toArray, List.getElem_cons_zero, List.getElem_cons_succ, List.setIfInBounds_toArray, List.set_cons_zero, List.set_cons_succ]
    have HPA : Hid (∀ ad, pa = some ad → w.heap.size ≤ ad.block ∧ ad.block < X0.heap.size) := fun ad e => HO0.out.row.lt ad.block (by rw [e]; rfl)
    have HZ0 : Hid (w.heap.size ≤ X0.heap.size ∧ X0.heap.size ≤ w9.heap.size) := ⟨HB0.out.size, HK9.out.str.size⟩
    have HCA : Hid (∀ g, c.A bt g → g < w.heap.size) := HT.out.lt
    have HR9 : Hid (OwnL E8 w.heap.size w9 (.slice pa k pq) ((t.y 1).take k)) := HO0.out.blk (fun g e => HK9.out.blk g (HO0.out.row.lt g e).2 (fun e2 => by have := HCA.out g e2; have := (HO0.out.row.lt g e).1; omega))
    have HSES : Hid (Ses w9 (c8.b 1) (t8.s 1) (c8.st 1)) := HT9.out.e 1 (by omega)
    obtain ⟨s9, o9, hq⟩ : ∃ a b, recvP (t8.s 1) ((t.y 1).take k) t8.clk = (a, b) := ⟨_, _, rfl⟩
    have HQ9 : Hid (recvP (t8.s 1) ((t.y 1).take k) t8.clk = (s9, o9)) := hq
    have HOO := Oo.recv (t8.s 1) ((t.y 1).take k) t8.clk (by rw [HTL.out]; omega) (Nat.le_trans (moveP_x _ _) HSES.out.ok.2)
    rw [hq] at HOO
    have HO9P : Hid (Oo o9 ∧ o9.b.length ≤ 600000000 ∧ o9.ev.length ≤ 1000000) := HOO
    have HRC := recv_any (c8.b 1) (t8.s 1) (c8.st 1) pa k pq ((t.y 1).take k) t8.clk w9 HSES.out (by rw [HT8E.out.2.1]; exact HCK.out) HR9.out.lst.1 HTL.out hpq (take_u8 (HT.out.y 1 (by omega)).2 k) (fun ad e => by
      have h5 := HPA.out ad e
      refine ⟨fun hf => ?_, by have := HZ0.out.2; omega⟩
      have h6 : c.F bt 2 ad.block := by
        show fpS (c.b 1) (c.st 1) ad.block
        rw [← HC8.out.1, ← HC8.out.2.1]
        exact hf
      have := HCA.out _ ⟨2, by omega, h6⟩
      omega) (by omega) s9 o9 hq
    clear hq HOO
    refine wpAnyH_ready (rs := [13]) (by kernel_rfl) (by simp) ?_
    refine AllReadyH.cons rfl (fun K hK => ?_) AllReadyH.nil
    go_simp
    refine HRC.mono ?_
    rintro en w10 ⟨vb, ve, l, st', rfl, hs10, ho10, ha10, hk10⟩
    obtain ⟨ht10, hl10⟩ := TI.ses HT9.out (i := 1) (by omega) hs10 hk10
    obtain ⟨c10, hc10⟩ : ∃ y, ({ c8 with st := upd c8.st 1 st' } : Cp) = y := ⟨_, rfl⟩
    have HAV : Hid (∀ g, fpV vb ve l g → ¬ c10.A bt g) := by
      rw [← hc10]
      refine A_ses (w9 := w9) (by omega) HT9.out.lt (fun g hg => ?_) ha10
      rcases hg with e | e | ⟨p, hp, hm⟩
      · exact (ho10.bys.row.lt g e).1
      · exact (ho10.ev.own.row.lt g e).1
      · exact ((ho10.ev.each p hp).rng g hm).1
    have HC10 : Hid (c10.b = c8.b ∧ c10.h = c8.h) := by rw [← hc10]; exact ⟨rfl, rfl⟩
    rw [hc10] at ht10 hl10
    have HT10 : Hid (TI N w10 bt (sesP t8 1 s9) c10) := ht10
    have HL10 : Hid (Kl w9 w10 bt c8 c10) := hl10
    have HOV : Hid (OutV N w10 o9 vb ve l) := by
      have hz : N ≤ w9.heap.size := Nat.le_trans HNN.out (Nat.le_trans HZ0.out.1 HZ0.out.2)
      exact ⟨ho10.bys.mono hz, ⟨ho10.ev.own.mono hz, fun p hp => (ho10.ev.each p hp).mono hz, ho10.ev.ap, ho10.ev.pw⟩, ho10.eq, ho10.a1⟩
    have HML : Hid (∀ p ∈ l, ∀ g, Mown p.2 g → w9.heap.size ≤ g) := fun p hp g hm => ((ho10.ev.each p hp).rng g hm).1
    have HOUT := out1_any N bt (sesP t8 1 s9) c10 o9 vb ve l w10 HT10.out (Nat.le_trans HNN.out (Nat.le_trans HZ0.out.1 (Nat.le_trans HZ0.out.2 HL10.out.str.size))) HOV.out HAV.out HO9P.out.1.u8 HO9P.out.1.kd (by show (t8.y 0).length + _ ≤ _; rw [HT8E.out.2.2.2.2.1]; have := HLL.out.2.1; have := HO9P.out.2.1; omega) (by have := HO9P.out.2.2; omega) (by show (t8.o 1).length ≤ _; rw [HT8E.out.2.2.1]; exact HLL.out.2.2.1) (by show 0 ≤ t8.u 1 ∧ t8.u 1 ≤ _; rw [HT8E.out.2.2.2.1]; exact HLL.out.2.2.2) t' (by
      rw [← HP.out]
      unfold comesP
      have h5 := HQ9.out
      rw [HT8E.out.1, HT8E.out.2.1] at h5
      rw [h5, HT8Q.out]
      unfold sesP
      rw [HT8E.out.1])
    have hS10 : w10.cell? ⟨bt, 1, none⟩ = some (.pointer (some ⟨c8.b 1, 0, none⟩)) ∧ w10.cell? ⟨bt, 10, none⟩ = some (.int .i64 t8.clk) := by
      rw [← HC10.out.1]
      exact ⟨HT10.out.box.cell 1, HT10.out.box.cell 10⟩
    refine hK.out _ _ hS10 (fun hHeld => ?_)
    clear hK K hS10 HRC hs10 ho10 ha10 hk10 ht10 hl10 hc10
    try simp only [Act.put, List.getElem_toArray, List.getElem_cons_zero, List.getElem_cons_succ, List.setIfInBounds_toArray, List.set_cons_zero, List.set_cons_succ]
    refine wpAnyH_ready (rs := [14]) (by kernel_rfl) (by simp) ?_
    refine AllReadyH.cons rfl (fun K hK => ?_) AllReadyH.nil
    go_simp
    refine HOUT.mono ?_
    rintro en w11 ⟨rfl, c11, hti, hsb, hstr, hblk, hnow⟩
    have HR : Hid (CmPost N w bt c t' (.returned (.bool true)) w11) := by
      have z1 := HZ0.out
      have z2 := HL10.out.str.size
      refine ⟨rfl, c11, hti, ⟨hsb.1.trans (HC10.out.1.trans HC8.out.1), hsb.2.trans (HC10.out.2.trans HC8.out.2.2)⟩, ⟨(((HB0.out.mono (Nat.zero_le _)).trans HK9.out.str).trans HL10.out.str).trans hstr, fun g hg hn => ?_, fun g hg => ?_⟩⟩
      · have n8 : ¬ c8.A bt g := fun e => by
          rcases HK9.out.now g e with e2 | e2
          · exact hn e2
          · omega
        have n10 : ¬ c10.A bt g := fun e => by
          rcases HL10.out.now g e with e2 | e2
          · exact n8 e2
          · omega
        exact (((hblk g (by omega) n10 (fun p hp hm => by have := HML.out p hp g hm; omega)).trans (HL10.out.blk g (by omega) n8)).trans (HK9.out.blk g (by omega) hn)).trans (HB0.out.block g hg)
      · rcases hnow g hg with e | e | ⟨p, hp, hm⟩
        · rcases HL10.out.now g e with e2 | e2
          · rcases HK9.out.now g e2 with e3 | e3
            · exact .inl e3
            · exact .inr (by omega)
          · exact .inr (by omega)
        · exact .inr (by omega)
        · exact .inr (by have := HML.out p hp g hm; omega)
    have hS11 : w11.cell? ⟨bt, 1, none⟩ = some (.pointer (some ⟨c8.b 1, 0, none⟩)) ∧ w11.cell? ⟨bt, 10, none⟩ = some (.int .i64 t8.clk) := by
      have h5 : t'.clk = t8.clk := by
        rw [← HP.out]
        unfold comesP
        rw [outP_clk]
        exact HT8E.out.2.1.symm
      rw [← HC10.out.1, ← hsb.1, ← h5]
      exact ⟨hti.box.cell 1, hti.box.cell 10⟩
    refine hK.out _ _ hS11 (fun hHeld => ?_)
    clear hK K hS11 HOUT hti hsb hstr hblk hnow
    try simp only [Act.put, List.getElem_toArray, List.getElem_cons_zero, List.getElem_cons_succ, List.setIfInBounds_toArray, List.set_cons_zero, List.set_cons_succ]
    refine wpAnyH_take (i := 15) (v := ?_) rfl (by kernel_rfl) (by kernel_rfl) (by kernel_rfl) (fun _ _ _ h => h) (Or.inl ⟨by rfl, ?_⟩) (by assumption) ?_
    case refine_2 => intro W hSw; go_simp; try rfl
    try simp only [Act.put, List.getElem_toArray, List.getElem_cons_zero, List.getElem_cons_succ, List.setIfInBounds_toArray, List.set_cons_zero, List.set_cons_succ]
    refine wpAnyH_done (by kernel_rfl) ?_ _
    clear hHeld
    go_wp2_with fail
    go_ret
    exact HR.out
end Go.Proofs.Ytanboekdfdafmaa.Pv
namespace Go.Proofs.Ytanboekdfdafmaa.Pv
open Go.ChangeShapes Go.WideShapes Go.ChangeAt Go.RowKit Go.Joins Go.Deep Go.Proofs.Ytanboekdfdafmaa.PM Go.Proofs.Ytanboekdfdafmaa.Ask Go.Proofs.Ytanboekdfdafmaa.Ge
set_option linter.unusedVariables false
set_option linter.unusedSimpArgs false

theorem Kl.refl (W : World) (bt : Nat) (c : Cp) : Kl W W bt c c := ⟨Below.refl _ _, fun _ _ _ => rfl, fun _ h => .inl h⟩
theorem Kl.trans {W W1 W2 : World} {bt : Nat} {c c1 c2 : Cp} (h : Kl W W1 bt c c1) (k : Kl W1 W2 bt c1 c2) : Kl W W2 bt c c2 := by
  refine ⟨h.str.trans k.str, fun g hg hf => (k.blk g (Nat.lt_of_lt_of_le hg h.str.size) (fun h1 => ?_)).trans (h.blk g hg hf), fun g hg => ?_⟩
  · rcases h.now g h1 with e | e
    · exact hf e
    · omega
  · rcases k.now g hg with e | e
    · exact h.now g e
    · exact .inr (Nat.le_trans h.str.size e)
/-- nothing is too great -/
structure Bd (t : Tl) : Prop where
  k : -9223372036854775808 ≤ t.clk ∧ t.clk < 9223372036854775808
  y : ∀ i, i < 2 → (t.y i).length ≤ 500000
  o : ∀ i, i < 2 → (t.o i).length ≤ 1000000000
  u : ∀ i, i < 2 → 0 ≤ t.u i ∧ t.u i ≤ 1000000000
/-- all that is under way to one end comes -/
def allP (t : Tl) (who : Nat) : Tl := comesP t who (t.y who).length
theorem both_all (t : Tl) : bothP t = allP (allP t 0) 1 := rfl
def bothN : Nat → Tl → Tl
  | 0, t => t
  | n + 1, t => bothP (bothN n t)
theorem settle_both : ∀ (n : Nat) (t : Tl), settleP n t = bothN n t
  | 0, t => rfl
  | n + 1, t => by
    have h : ∀ (n : Nat) (t : Tl), bothN n (bothP t) = bothP (bothN n t) := fun n => by
      induction n with
      | zero => intro t; rfl
      | succ n ih => intro t; show bothP (bothN n (bothP t)) = _; rw [ih]; rfl
    show settleP n (bothP t) = _
    rw [settle_both n (bothP t), h]
    rfl
/-- so many ends have got what was under way -/
def sq (t : Tl) : Nat → Tl
  | 0 => t
  | 1 => allP t 0
  | _ => allP (allP t 0) 1
/-- within the loops -/
structure SI (N : Nat) (w : World) (bt : Nat) (c : Cp) (wr : World) (t : Tl) (c' : Cp) : Prop where
  ti : TI N wr bt t c'
  b : c'.b = c.b
  h : c'.h = c.h
  k : Kl w wr bt c c'
set_option maxRecDepth 100000 in
set_option maxHeartbeats 16000000 in
theorem settle_any (N bt : Nat) (t : Tl) (c : Cp) (w : World) (h : TI N w bt t c) (hN : N ≤ w.heap.size) (hb : ∀ i, i < 20 → Bd (bothN i t) ∧ Bd (allP (bothN i t) 0)) (hb2 : Bd (bothN 20 t)) (r : Bool) (hr : decide (((bothN 20 t).y 0).length + ((bothN 20 t).y 1).length = 0) = r) :
    Calls Try.prog 11 #[.pointer (some ⟨bt, 0, none⟩)] w fun en w' => en = .returned (.bool r) ∧ ∃ c', SI N w bt c w' (bothN 20 t) c' := by
  have HT : Hid (TI N w bt t c) := h
  have HNN : Hid (N ≤ w.heap.size) := hN
  have HBD : Hid (∀ i, i < 20 → Bd (bothN i t) ∧ Bd (allP (bothN i t) 0)) := hb
  have HB2 : Hid (Bd (bothN 20 t)) := hb2
  have HR : Hid (decide (((bothN 20 t).y 0).length + ((bothN 20 t).y 1).length = 0) = r) := hr
  have HS0 : Hid (SI N w bt c w (bothN 0 t) c) := ⟨h, rfl, rfl, Kl.refl _ _ _⟩
  clear h hN hb hb2 hr
  go_enter Try.func11, Try.ntmps11
  go_wp2_with fail
  go_loopw [3] (fun kv wr => ∃ (i : Nat) (ci : Cp), i ≤ 20 ∧ kv = .int .i64 (i : Int) ∧ SI N w bt c wr (bothN i t) ci) (fun k _ => 20 - (intOf k).toNat)
  case atStart => exact ⟨0, c, by omega, rfl, HS0.out⟩
  case round =>
    obtain ⟨i, ci, hi, rfl, hsi⟩ := hrel
    have HSI : Hid (SI N w bt c wr (bothN i t) ci) := hsi
    clear hsi HS0
    by_cases hil : i < 20
    · have hili : (i : Int) < 20 := by omega
      obtain ⟨wq, hwq⟩ : ∃ y, wr = y := ⟨_, rfl⟩
      rw [hwq] at HSI ⊢
      clear hwq
      obtain ⟨ti, hti⟩ : ∃ y, bothN i t = y := ⟨_, rfl⟩
      have HTI : Hid (bothN i t = ti) := hti
      rw [hti] at HSI
      have HBI : Hid (Bd ti ∧ Bd (allP ti 0)) := by rw [← hti]; exact HBD.out i hil
      clear hti
      go_wp2_with fail
      go_loopw [4] (fun kv wr => ∃ (q : Nat) (cq : Cp), q ≤ 2 ∧ kv = .int .i64 (q : Int) ∧ SI N w bt c wr (sq ti q) cq) (fun k _ => 2 - (intOf k).toNat)
      case atStart => exact ⟨0, ci, by omega, rfl, HSI.out⟩
      case round =>
        obtain ⟨q, cq, hq, rfl, hsq⟩ := hrel
        have HQ : Hid (SI N w bt c wr (sq ti q) cq) := hsq
        clear hsq HSI
        match q, hq, HQ with
        | 0, hq, HQ => as_aux_lemma =>
          have HSQ : Hid (SI N w bt c wr (ti) cq) := HQ.out
          obtain ⟨wa, wc, hwv, -⟩ := (HSQ.out.ti.y 0 (by omega)).1.form
          obtain ⟨wl, hwl⟩ : ∃ y, ((ti).y 0).length = y := ⟨_, rfl⟩
          rw [hwl] at hwv
          have dw : wr.cell? ⟨bt, 2, none⟩ = some (.slice wa wl wc) := by rw [← hwv]; exact HSQ.out.ti.box.cell 2
          have HCM := comes0_any N bt (ti) cq wl wr HSQ.out.ti (Nat.le_trans HNN.out HSQ.out.k.str.size) HBI.out.1.k (HBI.out.1.y 0 (by omega)) (by have := HBI.out.1.y 1 (by omega); omega) (HBI.out.1.o 0 (by omega)) (HBI.out.1.u 0 (by omega)) (allP ti 0) (by rw [hwl, Nat.min_self, ← hwl]; rfl)
          clear hwl hwv
          go_wp2_with fail
          refine HCM.mono ?_
          rintro en w' ⟨rfl, c1, h1, h2, h3⟩
          have HS1 : Hid (SI N w bt c w' (sq ti 1) c1) := ⟨h1, h2.1.trans HSQ.out.b, h2.2.trans HSQ.out.h, HSQ.out.k.trans h3⟩
          clear HCM h1 h2 h3
          go_wp2_with fail
          exact ⟨⟨1, c1, by omega, by simp, HS1.out⟩, by simp [intOf]⟩
        | 1, hq, HQ => as_aux_lemma =>
          have HSQ : Hid (SI N w bt c wr (allP ti 0) cq) := HQ.out
          obtain ⟨wa, wc, hwv, -⟩ := (HSQ.out.ti.y 1 (by omega)).1.form
          obtain ⟨wl, hwl⟩ : ∃ y, ((allP ti 0).y 1).length = y := ⟨_, rfl⟩
          rw [hwl] at hwv
          have dw : wr.cell? ⟨bt, 3, none⟩ = some (.slice wa wl wc) := by rw [← hwv]; exact HSQ.out.ti.box.cell 3
          have HCM := comes1_any N bt (allP ti 0) cq wl wr HSQ.out.ti (Nat.le_trans HNN.out HSQ.out.k.str.size) HBI.out.2.k (HBI.out.2.y 1 (by omega)) (by have := HBI.out.2.y 0 (by omega); omega) (HBI.out.2.o 1 (by omega)) (HBI.out.2.u 1 (by omega)) (allP (allP ti 0) 1) (by rw [hwl, Nat.min_self, ← hwl]; rfl)
          clear hwl hwv
          go_wp2_with fail
          refine HCM.mono ?_
          rintro en w' ⟨rfl, c1, h1, h2, h3⟩
          have HS1 : Hid (SI N w bt c w' (sq ti 2) c1) := ⟨h1, h2.1.trans HSQ.out.b, h2.2.trans HSQ.out.h, HSQ.out.k.trans h3⟩
          clear HCM h1 h2 h3
          go_wp2_with fail
          exact ⟨⟨2, c1, by omega, by simp, HS1.out⟩, by simp [intOf]⟩
        | 2, hq, HQ => as_aux_lemma =>
          have HS2 : Hid (SI N w bt c wr (bothN (i + 1) t) cq) := by
            show SI N w bt c wr (bothP (bothN i t)) cq
            rw [HTI.out]
            exact HQ.out
          go_wp2_with fail
          exact ⟨⟨i + 1, cq, by omega, by simp, HS2.out⟩, by simp [intOf]; omega⟩
    · obtain rfl : i = 20 := by omega
      obtain ⟨wq, hwq⟩ : ∃ y, wr = y := ⟨_, rfl⟩
      rw [hwq] at HSI ⊢
      clear hwq
      obtain ⟨wa, wc, hwv, -⟩ := (HSI.out.ti.y 0 (by omega)).1.form
      obtain ⟨wl, hwl⟩ : ∃ y, ((bothN 20 t).y 0).length = y := ⟨_, rfl⟩
      rw [hwl] at hwv
      have dw : wq.cell? ⟨bt, 2, none⟩ = some (.slice wa wl wc) := by rw [← hwv]; exact HSI.out.ti.box.cell 2
      obtain ⟨xa, xc, hxv, -⟩ := (HSI.out.ti.y 1 (by omega)).1.form
      obtain ⟨xl, hxl⟩ : ∃ y, ((bothN 20 t).y 1).length = y := ⟨_, rfl⟩
      rw [hxl] at hxv
      have dx : wq.cell? ⟨bt, 3, none⟩ = some (.slice xa xl xc) := by rw [← hxv]; exact HSI.out.ti.box.cell 3
      have hw5 : wl ≤ 500000 := by rw [← hwl]; exact HB2.out.y 0 (by omega)
      have hx5 : xl ≤ 500000 := by rw [← hxl]; exact HB2.out.y 1 (by omega)
      have HRR : Hid (decide (wl + xl = 0) = r) := by rw [← hwl, ← hxl]; exact HR.out
      have HSD : Hid (SI N w bt c wq.drew (bothN 20 t) ci) := ⟨HSI.out.ti.bel (drew_bel wq), HSI.out.b, HSI.out.h, HSI.out.k.trans ⟨(drew_bel wq).mono (Nat.zero_le _), fun _ _ _ => rfl, fun _ h => .inl h⟩⟩
      clear hwv hwl hxv hxl
      go_wp2_with fail
      go_region
      go_wp2_with fail
      go_ret
      refine ⟨?_, ci, HSD.out⟩
      rw [← HRR.out]
      refine congrArg (fun b => Ending.returned (Value.bool b)) ?_
      rw [Bool.eq_iff_iff]
      simp
      omega
end Go.Proofs.Ytanboekdfdafmaa.Pv
