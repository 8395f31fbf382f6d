/- ChooseWorse: the law. -/
import Derived.Test.YtkahjibdmhaglaaChI
import Derived.Test.YtkahjibdmhaglaaChU
namespace Go.Proofs.Ytkahjibdmhaglaa.Ch
open Go.ChangeShapes Go.WideShapes Go.ChangeAt Go.RowKit Go.Joins Go.Deep Go.Proofs.Ytkahjibdmhaglaa.Ge
set_option linter.unusedVariables false
set_option linter.unusedSimpArgs false

theorem ret_i64 {x y : Int} (h : x = y) : Ending.returned (.int .i64 x) = .returned (.int .i64 y) := by rw [h]
def md (c : Int) (n : Nat) : Nat := (c % (n : Int)).toNat
theorem md_lt {c : Int} {n : Nat} (h : 0 < n) : md c n < n := by
  unfold md
  have h1 := Int.emod_nonneg c (show (n : Int) ≠ 0 by omega)
  have h2 := Int.emod_lt_of_pos c (show (0 : Int) < n by omega)
  omega
theorem md_eq {c : Int} {n : Nat} (h : 0 < n) : (md c n : Int) = if c.tmod n < 0 then c.tmod n + n else c.tmod n := by
  unfold md
  rw [Int.toNat_of_nonneg (Int.emod_nonneg c (by omega))]
  have e := Int.emod_eq_tmod (a := c) (b := (n : Int))
  split at e
  · rename_i hc
    have h1 : 0 ≤ c.tmod n := by
      rcases hc with hc | hc
      · exact Int.tmod_nonneg _ hc
      · rw [Int.tmod_eq_zero_of_dvd hc]; exact Int.le_refl _
    rw [e, if_neg (by omega)]
    omega
  · rename_i hc
    have h1 : c.tmod n < 0 := by
      have h2 : ¬ 0 ≤ c := fun h => hc (.inl h)
      have h3 : c.tmod n ≠ 0 := fun h => hc (.inr (Int.dvd_of_tmod_eq_zero h))
      have h4 : c.tmod n ≤ 0 := by
        have e5 := Int.neg_tmod (-c) (n : Int)
        rw [Int.neg_neg] at e5
        have h6 := Int.tmod_nonneg (n : Int) (show 0 ≤ -c by omega)
        omega
      omega
    rw [e, if_pos h1]
    simp
set_option maxHeartbeats 4000000 in
theorem mod_any (c : Int) (hc : -9223372036854775808 ≤ c ∧ c < 9223372036854775808) (n : Nat) (h : 0 < n) (h2 : n ≤ 1048576) (k : Nat) (hk : md c n = k) (w : World) :
    Calls Try.prog 15 #[.int .i64 c, .int .i64 (n : Int)] w fun e w' => e = .returned (.int .i64 (k : Int)) ∧ w' = w := by
  have HK : Hid ((k : Int) = if c.tmod n < 0 then c.tmod n + n else c.tmod n) := by show _ = _; rw [← hk]; exact md_eq h
  have hlt : k < n := by rw [← hk]; exact md_lt h
  obtain ⟨t, ht⟩ : ∃ t, c.tmod n = t := ⟨_, rfl⟩
  rw [ht] at HK
  have hn0 : ¬ (n : Int) = 0 := by omega
  have htr : -(n : Int) < t ∧ t < n := by
    rw [← ht]
    have h5 := Int.lt_tmod_of_pos c (show (0 : Int) < n by omega)
    have h6 := Int.tmod_lt_of_pos c (show (0 : Int) < n by omega)
    exact ⟨h5, h6⟩
  by_cases hneg : t < 0
  · have HK2 : Hid ((k : Int) = t + n) := by have := HK.out; rw [if_pos hneg] at this; exact this
    clear HK hk
    go_enter Try.func15, Try.ntmps15
    go_wp2_with fail
    go_ret
    exact ⟨ret_i64 HK2.out.symm, rfl⟩
  · have HK2 : Hid ((k : Int) = t) := by have := HK.out; rw [if_neg hneg] at this; exact this
    clear HK hk
    go_enter Try.func15, Try.ntmps15
    go_wp2_with fail
    go_ret
    exact ⟨ret_i64 HK2.out.symm, rfl⟩
def RtK : Sk := ⟨33, 10, _, Try.underlying33, rfl, by kernel_rfl⟩
def rtL (x : Of) (s : Oa) : List Value := [.int .u32 x.pa, .int .i64 x.pn, .slice s.p x.path.length s.pc, .int .i64 x.org, .int .i64 x.pref, .int .i64 x.med, .int .u32 x.next, .slice s.m x.marks.length s.mc, .slice s.c x.clus.length s.cc, .int .i64 x.auth]
def rt0 : List Value := [.int .u32 0, .int .i64 0, .slice none 0 0, .int .i64 0, .int .i64 0, .int .i64 0, .int .u32 0, .slice none 0 0, .slice none 0 0, .int .i64 0]
theorem rtL_at {w : World} {b k : Nat} {x : Of} {s : Oa} (h : OfAt w b k x s) : ∀ j, j < RtK.k → w.cell? ⟨b, k + j, none⟩ = (rtL x s)[j]? := fun j hj => by
  have hj10 : j < 10 := hj
  rw [h j (by omega)]
  match j, hj10 with
  | 0, _ | 1, _ | 2, _ | 3, _ | 4, _ | 5, _ | 6, _ | 7, _ | 8, _ | 9, _ => rfl
theorem rnew_run {o : Oper} {ρ : Operand → Value} {W : World} (ho : o.op = .alloc 33) : (execOp ρ o).run Try.prog W = .ok (.value (.pointer (some ⟨W.heap.size, 0, none⟩))) (W.alloc (Obj.cells rt0.toArray 33)) := by
  unfold execOp
  rw [ho]
  simp [go_sem, rt0]
theorem list_rnew {ops : Array Oper} {rest : List Oper} {o : Oper} {ac : Act} {Q : Exit → Act → World → Prop} {W : World} (hgd : o.guard = none) (ho : o.op = .alloc 33)
    (k : ∀ b W', Hid (W.heap.size = b) → Hid (SB RtK b rt0 W') → Hid (Below W.heap.size W W') → wpList Try.prog ops Q rest (ac.put o.dst (.pointer (some ⟨b, 0, none⟩))) W') : wpList Try.prog ops Q (o :: rest) ac W := by
  refine wpList_plain hgd fun K hK => ?_
  unfold Oper.wp
  rw [rnew_run ho]
  exact hK _ _ (k _ _ rfl (World.alloc_heap_new W _) ((Below.refl _ W).alloc (Nat.le_refl _) _))
theorem sat_run {o : Oper} {ρ : Operand → Value} {W : World} (T : Sk) (x : Operand) (ho : o.op = .load T.t x) {b k : Nat} {cs : List Value} (hx : ρ x = .pointer (some ⟨b, k, none⟩)) (h : ∀ j, j < T.k → W.cell? ⟨b, k + j, none⟩ = cs[j]?) (hl : cs.length = T.k) : (execOp ρ o).run Try.prog W = .ok (.value (.agg cs.toArray)) W := by
  unfold execOp
  have hr : W.rangeAt b k cs := fun j v hv => by
    have hj : j < T.k := by rw [← hl]; exact (List.getElem?_eq_some_iff.1 hv).1
    rw [h j hj]; exact hv
  simp only [ho, hx, Instr.loadAt, Instr.sureAddr, Sem.run_bind, Sem.run_pure, Result.andThen_ok, run_loadVar_mid W b k T.t cs T.d hr T.hu T.hd (by rw [T.hi, hl])]
theorem list_sat {ops : Array Oper} {rest : List Oper} {o : Oper} {ac : Act} {Q : Exit → Act → World → Prop} {W : World} (T : Sk) (hgd : o.guard = none) (x : Operand) (ho : o.op = .load T.t x) {b k : Nat} {cs : List Value} (hx : ac.eval x = .pointer (some ⟨b, k, none⟩)) (h : ∀ j, j < T.k → W.cell? ⟨b, k + j, none⟩ = cs[j]?) (hl : cs.length = T.k)
    (kk : wpList Try.prog ops Q rest (ac.put o.dst (.agg cs.toArray)) W) : wpList Try.prog ops Q (o :: rest) ac W := by
  refine wpList_plain hgd fun K hK => ?_
  unfold Oper.wp
  rw [sat_run T x ho hx h hl]
  exact hK _ _ kk
theorem ohi_run {o : Oper} {ρ : Operand → Value} {W : World} (x hi : Operand) (ho : o.op = .slice 22 x none (some hi) none) {b f n c h : Nat} (hx : ρ x = .slice (some ⟨b, f, none⟩) n c) (hh : ρ hi = .int .i64 (h : Int)) (h2 : h ≤ c) :
    (execOp ρ o).run Try.prog W = .ok (.value (.slice (some ⟨b, f, none⟩) h c)) W := by
  have g1 : (h : Int) ≤ (c : Int) := by omega
  unfold execOp
  rw [ho]
  simp [go_sem, hx, hh, g1]
theorem olo_run {o : Oper} {ρ : Operand → Value} {W : World} (x lo : Operand) (ho : o.op = .slice 22 x (some lo) none none) {b f n c l : Nat} (hx : ρ x = .slice (some ⟨b, f, none⟩) n c) (hl : ρ lo = .int .i64 (l : Int)) (h1 : l ≤ n) (h2 : n ≤ c) :
    (execOp ρ o).run Try.prog W = .ok (.value (.slice (if c = l then some ⟨b, f, none⟩ else some ⟨b, f + l * 13, none⟩) (n - l) (c - l))) W := by
  have g2 : (l : Int) ≤ (n : Int) := by omega
  unfold execOp
  rw [ho]
  simp [go_sem, hx, hl, g2]
theorem list_ohi {ops : Array Oper} {rest : List Oper} {o : Oper} {ac : Act} {Q : Exit → Act → World → Prop} {W : World} (hgd : o.guard = none) (x hi : Operand) (ho : o.op = .slice 22 x none (some hi) none) {b f n c h : Nat} (hx : ac.eval x = .slice (some ⟨b, f, none⟩) n c) (hh : ac.eval hi = .int .i64 (h : Int)) (h2 : h ≤ c)
    (k : wpList Try.prog ops Q rest (ac.put o.dst (.slice (some ⟨b, f, none⟩) h c)) W) : wpList Try.prog ops Q (o :: rest) ac W := by
  refine wpList_plain hgd fun K hK => ?_
  unfold Oper.wp
  rw [ohi_run x hi ho hx hh h2]
  exact hK _ _ k
theorem list_olo {ops : Array Oper} {rest : List Oper} {o : Oper} {ac : Act} {Q : Exit → Act → World → Prop} {W : World} (hgd : o.guard = none) (x lo : Operand) (ho : o.op = .slice 22 x (some lo) none none) {b f n c l : Nat} (hx : ac.eval x = .slice (some ⟨b, f, none⟩) n c) (hl : ac.eval lo = .int .i64 (l : Int)) (h1 : l ≤ n) (h2 : n ≤ c)
    (k : ∀ va : Option Addr, Hid (¬ c = l → va = some ⟨b, f + l * 13, none⟩) → Hid (va ≠ none) → wpList Try.prog ops Q rest (ac.put o.dst (.slice va (n - l) (c - l))) W) : wpList Try.prog ops Q (o :: rest) ac W := by
  refine wpList_plain hgd fun K hK => ?_
  unfold Oper.wp
  rw [olo_run x lo ho hx hl h1 h2]
  exact hK _ _ (k _ (fun e => if_neg e) (by show _ ≠ _; split <;> simp))
theorem obuild_run {o : Oper} (x : Operand) (ho : o.op = .buildSlice 22 1 #[(0, x)]) {ρ : Operand → Value} {m : Of} {s : Oa} {W : World} (hx : ρ x = .agg (ofL m s).toArray) : (execOp ρ o).run Try.prog W = .ok (.value (.slice (some ⟨W.heap.size, 0, none⟩) 1 1)) (W.alloc (Obj.cells (EO.enc (m, s)).toArray 35)) := by
  unfold ofL at hx
  unfold execOp
  rw [ho]
  simp [go_sem, hx, EO, ofL]
theorem list_obuild {ops : Array Oper} {rest : List Oper} {o : Oper} {ac : Act} {Q : Exit → Act → World → Prop} {W : World} (hgd : o.guard = none) (x : Operand) (ho : o.op = .buildSlice 22 1 #[(0, x)]) (m : Of) (s : Oa) (hx : ac.eval x = .agg (ofL m s).toArray)
    (k : wpList Try.prog ops Q rest (ac.put o.dst (.slice (some ⟨W.heap.size, 0, none⟩) 1 1)) (W.alloc (Obj.cells (EO.enc (m, s)).toArray 35))) : wpList Try.prog ops Q (o :: rest) ac W := by
  refine wpList_plain hgd fun K hK => ?_
  unfold Oper.wp
  rw [obuild_run x ho hx]
  exact hK _ _ k
def bkP (i k : Nat) : Nat := if k < i then i - 1 else i
theorem bk_fK (k i : Nat) : bkP (fK k i) k = i := by unfold bkP fK; split <;> split <;> omega
set_option maxHeartbeats 4000000 in
theorem back_any (i k : Nat) (hi : i ≤ 1000) (w : World) : Calls Try.prog 16 #[.int .i64 (i : Int), .int .i64 (k : Int)] w fun e w' => e = .returned (.int .i64 (bkP i k : Nat)) ∧ w' = w := by
  obtain ⟨z, hz⟩ : ∃ y, bkP i k = y := ⟨_, rfl⟩
  rw [hz]
  by_cases h : k < i
  · have HZ : Hid ((i : Int) - 1 = (z : Int)) := by have h2 := hz; unfold bkP at h2; rw [if_pos h] at h2; show _ = _; omega
    have h3 : (k : Int) < (i : Int) := by omega
    clear hz h
    go_enter Try.func16, Try.ntmps16
    go_wp2_with fail
    go_ret
    exact ⟨ret_i64 HZ.out, rfl⟩
  · have HZ : Hid ((i : Int) = (z : Int)) := by have h2 := hz; unfold bkP at h2; rw [if_neg h] at h2; show _ = _; omega
    have h3 : ¬ (k : Int) < (i : Int) := by omega
    clear hz h
    go_enter Try.func16, Try.ntmps16
    go_wp2_with fail
    go_ret
    exact ⟨ret_i64 HZ.out, rfl⟩
/-! plain: one is put in -/
def insO (xs : List (Of × Oa)) (k : Nat) (y : Of × Oa) : List (Of × Oa) := xs.take k ++ [y] ++ xs.drop k
theorem ins_at {xs : List (Of × Oa)} {k : Nat} {y : Of × Oa} (hk : k ≤ xs.length) : atO (insO xs k y) k = y.1 ∧ ∀ i, atO (insO xs k y) (fK k i) = atO xs i := by
  unfold atO insO
  have hl : (xs.take k).length = k := by rw [List.length_take]; omega
  constructor
  · rw [List.getElem?_append_left (by simp [hl]), List.getElem?_append_right (by omega), hl]
    simp
  · intro i
    unfold fK
    split
    · rename_i h
      rw [List.getElem?_append_left (by simp [hl]; omega), List.getElem?_append_left (by omega), List.getElem?_take, if_pos h]
    · rename_i h
      rw [List.getElem?_append_right (by simp [hl]; omega)]
      have e : i + 1 - (List.take k xs ++ [y]).length = i - k := by simp [hl]
      rw [e, List.getElem?_drop]
      congr 2
      congr 1
      omega
theorem range_ins (k : Nat) : ∀ d, (List.range (k + d + 1)).filter (fun i => decide (i ≠ k)) = (List.range (k + d)).map (fK k)
  | 0 => by
    rw [List.range_succ, List.filter_append]
    have e1 : List.filter (fun i => decide (i ≠ k)) [k] = [] := by simp
    have e2 : (List.range k).filter (fun i => decide (i ≠ k)) = List.range k := by
      rw [List.filter_eq_self]
      intro i hi
      have := List.mem_range.1 hi
      simp
      omega
    rw [e1, List.append_nil, e2]
    show List.range k = (List.range k).map (fK k)
    symm
    rw [List.map_eq_iff]
    intro i
    by_cases h : i < k
    · rw [List.getElem?_range h]
      simp [fK, h]
    · rw [List.getElem?_eq_none (by simp; omega)]
      rfl
  | d + 1 => by
    have e0 : k + (d + 1) + 1 = (k + d + 1) + 1 := by omega
    have e1 : k + (d + 1) = (k + d) + 1 := by omega
    rw [e0, List.range_succ, List.filter_append, range_ins k d, e1, List.range_succ, List.map_append]
    congr 1
    have : fK k (k + d) = k + d + 1 := by unfold fK; rw [if_neg (by omega)]
    simp [this]
    omega
theorem rch_ins {xs : List (Of × Oa)} {k : Nat} {y : Of × Oa} (hk : k ≤ xs.length) : (rchP (atO (insO xs k y)) (xs.length + 1)).filter (fun i => decide (i ≠ k)) = (rchP (atO xs) xs.length).map (fK k) := by
  unfold rchP
  have e : (List.range (xs.length + 1)).filter (fun i => decide (i ≠ k)) = (List.range xs.length).map (fK k) := by
    have h := range_ins k (xs.length - k)
    rw [show k + (xs.length - k) = xs.length from by omega] at h
    exact h
  rw [List.filter_filter]
  have e2 : (List.range (xs.length + 1)).filter (fun a => decide (a ≠ k) && decide (0 ≤ (atO (insO xs k y) a).cost)) = ((List.range (xs.length + 1)).filter (fun i => decide (i ≠ k))).filter (fun a => decide (0 ≤ (atO (insO xs k y) a).cost)) := by
    rw [List.filter_filter]
    apply List.filter_congr
    intro i hi
    exact Bool.and_comm _ _
  rw [e2, e, List.filter_map]
  congr 1
  apply List.filter_congr
  intro i hi
  simp only [Function.comp, (ins_at hk).2]
end Go.Proofs.Ytkahjibdmhaglaa.Ch
