/- The step that looks at Med. -/
import Derived.Test.YtkahjibdmhaglaaChF
import Derived.Test.YtkahjibdmhaglaaChG
namespace Go.Proofs.Ytkahjibdmhaglaa.Ch
open Go.ChangeShapes Go.WideShapes Go.ChangeAt Go.RowKit Go.Joins Go.Deep Go.Proofs.Ytkahjibdmhaglaa.Ge
set_option linter.unusedVariables false
set_option linter.unusedSimpArgs false

theorem mk_run {κ β : Type} [DecidableEq κ] {o : Oper} {ρ : Operand → Value} {W : World} (M : Mk κ β) (ho : o.op = .makeMap M.t none) : (execOp ρ o).run Try.prog W = .ok (.value (.map (some W.heap.size))) (W.alloc (.map #[] 0)) := by
  unfold execOp
  rw [ho]
  simp [Instr.makeMap, go_sem]
theorem list_mk {κ β : Type} [DecidableEq κ] {ops : Array Oper} {rest : List Oper} {o : Oper} {ac : Act} {Q : Exit → Act → World → Prop} {W : World} (M : Mk κ β) (hgd : o.guard = none) (ho : o.op = .makeMap M.t none)
    (k : ∀ b W', Hid (W.heap.size = b) → Hid (MB M b [] 0 W') → Hid (Below W.heap.size W W') → wpList Try.prog ops Q rest (ac.put o.dst (.map (some b))) W') : wpList Try.prog ops Q (o :: rest) ac W := by
  refine wpList_plain hgd fun K hK => ?_
  unfold Oper.wp
  rw [mk_run M ho]
  exact hK _ _ (k _ _ rfl (World.alloc_heap_new W _) ((Below.refl _ W).alloc (Nat.le_refl _) _))
theorem mnew_run {o : Oper} {ρ : Operand → Value} {W : World} (ho : o.op = .alloc 78) : (execOp ρ o).run Try.prog W = .ok (.value (.pointer (some ⟨W.heap.size, 0, none⟩))) (W.alloc (Obj.cells #[.map none] 78)) := by
  unfold execOp
  rw [ho]
  simp [go_sem]
theorem list_mnew {ops : Array Oper} {rest : List Oper} {o : Oper} {ac : Act} {Q : Exit → Act → World → Prop} {W : World} (hgd : o.guard = none) (ho : o.op = .alloc 78)
    (k : ∀ b W', Hid (W.heap.size = b) → Hid (W'.heap[b]? = some (Obj.cells #[.map none] 78)) → Hid (Below W.heap.size W W') → wpList Try.prog ops Q rest (ac.put o.dst (.pointer (some ⟨b, 0, none⟩))) W') : wpList Try.prog ops Q (o :: rest) ac W := by
  refine wpList_plain hgd fun K hK => ?_
  unfold Oper.wp
  rw [mnew_run ho]
  exact hK _ _ (k _ _ rfl (World.alloc_heap_new W _) ((Below.refl _ W).alloc (Nat.le_refl _) _))
theorem mset_run {o : Oper} {ρ : Operand → Value} {W : World} (x y : Operand) (ho : o.op = .store 78 x y) {b : Nat} {u : Value} {m : Option Nat} (hx : ρ x = .pointer (some ⟨b, 0, none⟩)) (hy : ρ y = .map m) (h : W.heap[b]? = some (Obj.cells #[u] 78)) : (execOp ρ o).run Try.prog W = .ok .skip (W.setCell ⟨b, 0, none⟩ (.map m)) := by
  have c0 : W.cell? ⟨b, 0, none⟩ = some u := cell1 h
  have f0 : W.frozen? ⟨b, 0, none⟩ = false := by simp [World.frozen?, h]
  unfold execOp
  rw [ho]
  simp [go_sem, hx, hy, c0, f0]
theorem list_mset {ops : Array Oper} {rest : List Oper} {o : Oper} {ac : Act} {Q : Exit → Act → World → Prop} {W : World} (hgd : o.guard = none) (x y : Operand) (ho : o.op = .store 78 x y) {b : Nat} {u : Value} {m : Option Nat} (hx : ac.eval x = .pointer (some ⟨b, 0, none⟩)) (hy : ac.eval y = .map m) (h : W.heap[b]? = some (Obj.cells #[u] 78))
    (k : ∀ W', Hid (W'.heap[b]? = some (Obj.cells #[.map m] 78)) → Hid (Ko W b W') → wpList Try.prog ops Q rest (ac.put o.dst undef) W') : wpList Try.prog ops Q (o :: rest) ac W := by
  refine wpList_plain hgd fun K hK => ?_
  unfold Oper.wp
  rw [mset_run x y ho hx hy h]
  exact hK _ _ (k _ (heap_setCell_same W b 0 _ _ _ h) (ko_cells b [.map m] 0 W))
/-- the least Med of each neighbour, of places -/
def MmOk (X : Nat → Of) (ps : List Nat) (f : Int → Option Int) : Prop := ∀ n, (f n = none → ∀ j ∈ ps, nbP (X j) ≠ n) ∧ (∀ k, f n = some k → (∃ j ∈ ps, nbP (X j) = n ∧ (X j).med = k) ∧ ∀ j ∈ ps, nbP (X j) = n → k ≤ (X j).med)
theorem mm_nil (X : Nat → Of) : MmOk X [] (mget ([] : Ents Int Int)) := fun n => ⟨(fun _ j hj => by cases hj), (fun k h => by cases h)⟩
/-- is the place's Med told, or a lesser one known? -/
def knows (f : Int → Option Int) (x : Of) : Bool := match f (nbP x) with
  | some k => decide (k ≤ x.med)
  | none => false
theorem mm_keep {X : Nat → Of} {ps : List Nat} {f : Int → Option Int} {i : Nat} (h : MmOk X ps f) (hk : knows f (X i) = true) : MmOk X (ps ++ [i]) f := fun n => by
  obtain ⟨h1, h2⟩ := h n
  refine ⟨fun hn j hj => ?_, fun k hk2 => ?_⟩
  · rcases List.mem_append.1 hj with hj | hj
    · exact h1 hn j hj
    · simp at hj
      subst hj
      intro e
      unfold knows at hk
      rw [e, hn] at hk
      cases hk
  · obtain ⟨⟨j, hj, e1, e2⟩, h3⟩ := h2 k hk2
    refine ⟨⟨j, List.mem_append_left _ hj, e1, e2⟩, fun j hj e => ?_⟩
    rcases List.mem_append.1 hj with hj | hj
    · exact h3 j hj e
    · simp at hj
      subst hj
      unfold knows at hk
      rw [e, hk2] at hk
      simpa using hk
theorem mm_put {X : Nat → Of} {ps : List Nat} {es : Ents Int Int} {c i : Nat} (h : MmOk X ps (mget es)) (hk : knows (mget es) (X i) = false) : MmOk X (ps ++ [i]) (mget (mput es c (nbP (X i)) (X i).med)) := fun n => by
  rw [mput_get]
  obtain ⟨h1, h2⟩ := h n
  by_cases e : n = nbP (X i)
  · rw [if_pos e]
    refine ⟨(fun hn => by cases hn), fun k hk2 => ?_⟩
    cases hk2
    refine ⟨⟨i, by simp, e.symm, rfl⟩, fun j hj e2 => ?_⟩
    rcases List.mem_append.1 hj with hj | hj
    · unfold knows at hk
      cases hm : mget es (nbP (X i)) with
      | none => rw [← e] at hm; exact absurd e2 (h1 hm j hj)
      | some k =>
        rw [hm] at hk
        rw [← e] at hm
        have := (h2 k hm).2 j hj e2
        simp at hk
        omega
    · simp at hj
      subst hj
      exact Int.le_refl _
  · rw [if_neg e]
    refine ⟨fun hn j hj => ?_, fun k hk2 => ?_⟩
    · rcases List.mem_append.1 hj with hj | hj
      · exact h1 hn j hj
      · simp at hj
        subst hj
        exact fun c => e c.symm
    · obtain ⟨⟨j, hj, e1, e2⟩, h3⟩ := h2 k hk2
      refine ⟨⟨j, List.mem_append_left _ hj, e1, e2⟩, fun j hj e4 => ?_⟩
      rcases List.mem_append.1 hj with hj | hj
      · exact h3 j hj e4
      · simp at hj
        subst hj
        exact absurd e4.symm e
def gotI (es : Ents Int Int) (k : Int) : Int := (mget es k).getD 0
theorem got_i (es : Ents Int Int) (k : Int) : MII.got es k = .int .i64 (gotI es k) := by
  unfold Mk.got gotI
  cases mget es k <;> rfl
theorem mm_del {X : Nat → Of} {ps : List Nat} {es : Ents Int Int} (h : MmOk X ps (mget es)) : ps.filter (fun i => !decide (gotI es (nbP (X i)) < (X i).med)) = surv X ps 5 := by
  unfold surv
  apply List.filter_congr
  intro i hi
  congr 1
  obtain ⟨h1, h2⟩ := h (nbP (X i))
  unfold gotI
  cases hm : mget es (nbP (X i)) with
  | none => exact absurd rfl (h1 hm i hi)
  | some k =>
    obtain ⟨⟨j, hj, e1, e2⟩, h3⟩ := h2 k hm
    rw [Bool.eq_iff_iff, decide_eq_true_iff, List.any_eq_true]
    constructor
    · intro c
      refine ⟨j, hj, ?_⟩
      simp [bt]
      refine ⟨e1.symm, ?_⟩
      rw [e2]
      simpa using c
    · rintro ⟨j2, hj2, c⟩
      simp [bt] at c
      have := h3 j2 hj2 c.1.symm
      simp
      omega
set_option maxRecDepth 100000 in
set_option maxHeartbeats 8000000 in
theorem c71_any (b2 b5 bm : Nat) (es : Ents Int Int) (ec : Nat) (lb lo n lc i : Nat) (x : Of) (s : Oa) (w : World) (c2 : w.cell? ⟨b2, 0, none⟩ = some (.slice (some ⟨lb, lo, none⟩) n lc)) (c5 : w.cell? ⟨b5, 0, none⟩ = some (.map (some bm))) (hm : MB MII bm es ec w) (hi : i < n) (h1 : OfAt w lb (lo + i * 13) x s) (hp : Lst EI w s.p x.path) : Calls Try.prog 71 #[.int .i64 (i : Int), .pointer (some ⟨b2, 0, none⟩), .pointer (some ⟨b5, 0, none⟩)] w fun e w' => e = .returned (.bool (decide (gotI es (nbP x) < x.med))) ∧ ∃ q, w' = w.drewN q := by
  have hii : (i : Int) < (n : Int) := by omega
  have i0 : (0 : Int) ≤ (i : Int) := by omega
  have cm : w.cell? ⟨lb, lo + i * 13 + 5, none⟩ = some (.int .i64 x.med) := h1 5 (by decide)
  have HNB := nb_any lb (lo + i * 13) x s w.drew h1 (hp.keep (Nat.le_refl _) (fun _ _ _ _ => rfl))
  obtain ⟨nb, hnb⟩ : ∃ y, nbP x = y := ⟨_, rfl⟩
  obtain ⟨md, hmd⟩ : ∃ y, x.med = y := ⟨_, rfl⟩
  rw [hnb] at HNB ⊢
  rw [hmd] at cm ⊢
  have HM : Hid (MB MII bm es ec w.drew) := hm
  have HQ : Hid (∃ q, w.drew = w.drewN q) := ⟨1, rfl⟩
  obtain ⟨wd, hwd⟩ : ∃ y, w.drew = y := ⟨_, rfl⟩
  have d2 : wd.cell? ⟨b2, 0, none⟩ = some (.slice (some ⟨lb, lo, none⟩) n lc) := by rw [← hwd]; exact c2
  have d5 : wd.cell? ⟨b5, 0, none⟩ = some (.map (some bm)) := by rw [← hwd]; exact c5
  have dm : wd.cell? ⟨lb, lo + i * 13 + 5, none⟩ = some (.int .i64 md) := by rw [← hwd]; exact cm
  obtain ⟨gz, hgz⟩ : ∃ y, gotI es nb = y := ⟨_, rfl⟩
  rw [hgz]
  have HG : Hid (gotI es nb = gz) := hgz
  rw [hwd] at HNB HM HQ
  have HWD : Hid (w.drew = wd) := hwd
  clear hnb hmd c2 c5 cm hm h1 hp hwd hgz
  go_enter Try.func71, Try.ntmps71
  go_wp2_with fail
  refine wp_region_held_drew (S := fun W => W = wd) (by kernel_rfl) HWD.out (fun hHeld => ?_)
  rw [HWD.out] at hHeld ⊢
  refine wpAnyH_take (i := 0) (v := .slice (some ⟨lb, lo, none⟩) n lc) rfl (by kernel_rfl) (by kernel_rfl) (by kernel_rfl) (fun _ _ _ h => h) (Or.inl ⟨by rfl, ?_⟩) (by assumption) ?_
  case refine_1 => intro W hSw; rw [hSw]; go_simp; try rfl
  try simp only [Act.put, List.getElem_toArray, List.getElem_cons_zero, List.getElem_cons_succ, List.setIfInBounds_toArray, List.set_cons_zero, List.set_cons_succ]
  refine wpAnyH_take (i := 1) (v := .int .i64 (i : Int)) rfl (by kernel_rfl) (by kernel_rfl) (by kernel_rfl) (fun _ _ _ h => h) (Or.inl ⟨by rfl, ?_⟩) (by assumption) ?_
  case refine_1 => intro W hSw; rw [hSw]; go_simp; try rfl
  try simp only [Act.put, List.getElem_toArray, List.getElem_cons_zero, List.getElem_cons_succ, List.setIfInBounds_toArray, List.set_cons_zero, List.set_cons_succ]
  refine wpAnyH_take (i := 2) (v := .pointer (some ⟨lb, lo + i * 13, none⟩)) rfl (by kernel_rfl) (by kernel_rfl) (by kernel_rfl) (fun _ _ _ h => h) (Or.inl ⟨by rfl, ?_⟩) (by assumption) ?_
  case refine_1 => intro W hSw; rw [hSw]; go_simp; try rfl
  try simp only [Act.put, List.getElem_toArray, List.getElem_cons_zero, List.getElem_cons_succ, List.setIfInBounds_toArray, List.set_cons_zero, List.set_cons_succ]
  refine wpAnyH_take (i := 3) (v := .pointer (some ⟨lb, lo + i * 13, none⟩)) rfl (by kernel_rfl) (by kernel_rfl) (by kernel_rfl) (fun _ _ _ h => h) (Or.inl ⟨by rfl, ?_⟩) (by assumption) ?_
  case refine_1 => intro W hSw; rw [hSw]; go_simp; try rfl
  try simp only [Act.put, List.getElem_toArray, List.getElem_cons_zero, List.getElem_cons_succ, List.setIfInBounds_toArray, List.set_cons_zero, List.set_cons_succ]
  refine wpAnyH_take (i := 4) (v := .pointer (some ⟨lb, lo + i * 13 + 5, none⟩)) rfl (by kernel_rfl) (by kernel_rfl) (by kernel_rfl) (fun _ _ _ h => h) (Or.inl ⟨by rfl, ?_⟩) (by assumption) ?_
  case refine_1 => intro W hSw; rw [hSw]; go_simp; try rfl
  try simp only [Act.put, List.getElem_toArray, List.getElem_cons_zero, List.getElem_cons_succ, List.setIfInBounds_toArray, List.set_cons_zero, List.set_cons_succ]
  refine wpAnyH_take (i := 5) (v := .int .i64 md) rfl (by kernel_rfl) (by kernel_rfl) (by kernel_rfl) (fun _ _ _ h => h) (Or.inl ⟨by rfl, ?_⟩) (by assumption) ?_
  case refine_1 => intro W hSw; rw [hSw]; go_simp; try rfl
  try simp only [Act.put, List.getElem_toArray, List.getElem_cons_zero, List.getElem_cons_succ, List.setIfInBounds_toArray, List.set_cons_zero, List.set_cons_succ]
  refine wpAnyH_take (i := 6) (v := .map (some bm)) rfl (by kernel_rfl) (by kernel_rfl) (by kernel_rfl) (fun _ _ _ h => h) (Or.inl ⟨by rfl, ?_⟩) (by assumption) ?_
  case refine_1 => intro W hSw; rw [hSw]; go_simp; try rfl
  try simp only [Act.put, List.getElem_toArray, List.getElem_cons_zero, List.getElem_cons_succ, List.setIfInBounds_toArray, List.set_cons_zero, List.set_cons_succ]
  refine wpAnyH_take (i := 7) (v := .slice (some ⟨lb, lo, none⟩) n lc) rfl (by kernel_rfl) (by kernel_rfl) (by kernel_rfl) (fun _ _ _ h => h) (Or.inl ⟨by rfl, ?_⟩) (by assumption) ?_
  case refine_1 => intro W hSw; rw [hSw]; go_simp; try rfl
  try simp only [Act.put, List.getElem_toArray, List.getElem_cons_zero, List.getElem_cons_succ, List.setIfInBounds_toArray, List.set_cons_zero, List.set_cons_succ]
  refine wpAnyH_take (i := 8) (v := .int .i64 (i : Int)) rfl (by kernel_rfl) (by kernel_rfl) (by kernel_rfl) (fun _ _ _ h => h) (Or.inl ⟨by rfl, ?_⟩) (by assumption) ?_
  case refine_1 => intro W hSw; rw [hSw]; go_simp; try rfl
  try simp only [Act.put, List.getElem_toArray, List.getElem_cons_zero, List.getElem_cons_succ, List.setIfInBounds_toArray, List.set_cons_zero, List.set_cons_succ]
  refine wpAnyH_take (i := 9) (v := .pointer (some ⟨lb, lo + i * 13, none⟩)) rfl (by kernel_rfl) (by kernel_rfl) (by kernel_rfl) (fun _ _ _ h => h) (Or.inl ⟨by rfl, ?_⟩) (by assumption) ?_
  case refine_1 => intro W hSw; rw [hSw]; go_simp; try rfl
  try simp only [Act.put, List.getElem_toArray, List.getElem_cons_zero, List.getElem_cons_succ, List.setIfInBounds_toArray, List.set_cons_zero, List.set_cons_succ]
  refine wpAnyH_ready (rs := [10]) (by kernel_rfl) (by simp) ?_
  refine AllReadyH.cons rfl (fun K hK => ?_) AllReadyH.nil
  go_simp
  refine HNB.mono ?_
  rintro e we ⟨rfl, hwe⟩
  rw [hwe]
  clear hwe we
  refine hK.out _ _ rfl (fun hHeld => ?_)
  clear hK K
  try simp only [Act.put, List.getElem_toArray, List.getElem_cons_zero, List.getElem_cons_succ, List.setIfInBounds_toArray, List.set_cons_zero, List.set_cons_succ]
  refine wpAnyH_take (i := 11) (v := .int .i64 gz) rfl (by kernel_rfl) (by kernel_rfl) (by kernel_rfl) (fun _ _ _ h => h) (Or.inl ⟨by rfl, fun W hSw => by rw [hSw, ← HG.out, ← got_i]; exact look_run MII (.tmp 11) (.tmp 15) rfl (k := nb) rfl rfl HM.out⟩) (by assumption) ?_
  try simp only [Act.put, List.getElem_toArray, List.getElem_cons_zero, List.getElem_cons_succ, List.setIfInBounds_toArray, List.set_cons_zero, List.set_cons_succ]
  refine wpAnyH_take (i := 12) (v := .bool (decide (gz < md))) rfl (by kernel_rfl) (by kernel_rfl) (by kernel_rfl) (fun _ _ _ h => h) (Or.inl ⟨by rfl, ?_⟩) (by assumption) ?_
  case refine_1 => intro W hSw; rw [hSw]; go_simp; try rfl
  try simp only [Act.put, List.getElem_toArray, List.getElem_cons_zero, List.getElem_cons_succ, List.setIfInBounds_toArray, List.set_cons_zero, List.set_cons_succ]
  refine wpAnyH_take (i := 13) (v := .bool (decide (gz < md))) rfl (by kernel_rfl) (by kernel_rfl) (by kernel_rfl) (fun _ _ _ h => h) (Or.inl ⟨by rfl, ?_⟩) (by assumption) ?_
  case refine_1 => intro W hSw; rw [hSw]; go_simp; try rfl
  try simp only [Act.put, List.getElem_toArray, List.getElem_cons_zero, List.getElem_cons_succ, List.setIfInBounds_toArray, List.set_cons_zero, List.set_cons_succ]
  refine wpAnyH_done (by kernel_rfl) ?_ _
  clear hHeld
  go_wp2_with fail
  go_ret
  exact ⟨rfl, HQ.out⟩
set_option maxRecDepth 100000 in
set_option maxHeartbeats 8000000 in
theorem del71_nil (c1 c2 : Value) (w : World) : Calls Try.prog 70 #[.slice none 0 0, .func (.func 71) #[] #[c1, c2]] w fun e w' => e = .returned (.slice none 0 0) ∧ ∃ q, w' = w.drewN q := by
  have HIX := idx71_any c1 c2 (fun _ => false) none 0 0 [] rfl w ⟨Nat.zero_le _, fun i hi => absurd hi (Nat.not_lt_zero _)⟩ (fun q i hi => by cases hi)
  have HZ : Hid (ixP (fun _ => false) [] = -1) := rfl
  obtain ⟨z, hz⟩ : ∃ y, ixP (fun _ => false) [] = y := ⟨_, rfl⟩
  rw [hz] at HIX HZ
  clear hz
  go_enter Try.func70, Try.ntmps70
  go_wp2_with fail
  refine HIX.mono ?_
  rintro e W1 ⟨rfl, hq⟩
  have HQ : Hid (∃ q, W1 = w.drewN q) := hq
  clear hq HIX
  rw [HZ.out]
  clear HZ
  go_wp2_with fail
  go_ret
  exact ⟨rfl, HQ.out⟩
/-- within the loop over the places -/
structure SmI (w : World) (N : Nat) (X : Nat → Of) (ps : List Nat) (m b2 b5 bm : Nat) (l : Value) (iv : Value) (W : World) : Prop where
  at_ : ∃ (i : Nat) (es : Ents Int Int) (c : Nat), i ≤ m ∧ iv = .int .i64 (i : Int) ∧ MB MII bm es c W ∧ MmOk X (ps.take i) (mget es)
  x2 : W.heap[b2]? = some (Obj.cells #[l] 22)
  x5 : W.heap[b5]? = some (Obj.cells #[.map (some bm)] 78)
  bel : Below w.heap.size w W
set_option maxRecDepth 100000 in
set_option maxHeartbeats 16000000 in
theorem med_any (la : Option Addr) (n lc : Nat) (xs : List (Of × Oa)) (hxn : xs.length = n) (N : Nat) (v : Value) (ps : List Nat) (hin : InN ps n) (w : World) (hN : N ≤ w.heap.size) (hx : Ofs N w la xs) (h : OwnL EN N w v ps) (ys : List Nat) (hys : surv (atO xs) ps 5 = ys) : Calls Try.prog 55 #[.slice la n lc, v] w (SkPost w N v ys) := by
  obtain ⟨va, vc, rfl, -, hnil, -⟩ := h.form
  have HNIL : Hid (va = none → ps.length = 0 ∧ vc = 0) := hnil
  have HX : Hid (Ofs N w la xs) := hx
  have HXN : Hid (xs.length = n) := hxn
  have HIN : Hid (InN ps n) := hin
  have HNN : Hid (N ≤ w.heap.size) := hN
  have HO : Hid (OwnL EN N w (.slice va ps.length vc) ps) := h
  have HYS : Hid (surv (atO xs) ps 5 = ys) := hys
  obtain ⟨m, hm⟩ : ∃ m, ps.length = m := ⟨_, rfl⟩
  have HM : Hid (ps.length = m) := hm
  have hsm : m ≤ 9223372036854775807 := by rw [← hm]; exact HO.out.lst.1.small
  rw [hm] at HO HNIL ⊢
  clear hx hxn hin h hys hN hm hnil
  go_enter Try.func55, Try.ntmps55
  go_wp2_with (refine list_box1 22 rfl _ rfl (.slice la n lc) rfl rfl ?_)
  intro b2 W1 hbe hx hb
  have HB2 : Hid (W1.heap[b2]? = some (Obj.cells #[.slice la n lc] 22)) := hx.out
  have HL1 : Hid (Below w.heap.size w W1) := hb.out
  have HG2 : Hid (w.heap.size ≤ b2) := Nat.le_of_eq hbe.out
  clear hbe hx hb
  go_wp2_with (refine list_mk MII rfl rfl ?_)
  intro bm W2 hbe hx hb
  have HM2 : Hid (MB MII bm [] 0 W2) := hx.out
  have HB22 : Hid (W2.heap[b2]? = some (Obj.cells #[.slice la n lc] 22)) := (hb.out.block b2 (lt1 HB2.out)).trans HB2.out
  have HL2 : Hid (Below w.heap.size w W2) := HL1.out.trans (hb.out.mono HL1.out.size)
  have HNE : Hid (b2 ≠ bm) := by have := lt1 HB2.out; have := hbe.out; show _ ≠ _; omega
  have HGM : Hid (w.heap.size ≤ bm) := by have := HL1.out.size; have := hbe.out; show _ ≤ _; omega
  clear hbe hx hb HB2 HL1
  go_wp2_with (refine list_mnew rfl rfl ?_)
  intro b5 W3 hbe hx hb
  have HB53 : Hid (W3.heap[b5]? = some (Obj.cells #[.map none] 78)) := hx.out
  have HM3 : Hid (MB MII bm [] 0 W3) := HM2.out.blk (hb.out.block bm HM2.out.lt)
  have HB23 : Hid (W3.heap[b2]? = some (Obj.cells #[.slice la n lc] 22)) := (hb.out.block b2 (lt1 HB22.out)).trans HB22.out
  have HL3 : Hid (Below w.heap.size w W3) := HL2.out.trans (hb.out.mono HL2.out.size)
  have HG5 : Hid (w.heap.size ≤ b5) := by have := HL2.out.size; have := hbe.out; show _ ≤ _; omega
  have HN2M : Hid (b2 ≠ bm ∧ b5 ≠ bm) := by have := HNE.out; have := HM2.out.lt; have := hbe.out; exact ⟨by omega, by omega⟩
  have HN5 : Hid (b2 ≠ b5 ∧ bm ≠ b5) := by have := lt1 HB22.out; have := HM2.out.lt; have := hbe.out; exact ⟨by omega, by omega⟩
  clear hbe hx hb HB22 HL2 HM2
  go_wp2_with (refine list_mset rfl _ _ rfl rfl rfl HB53.out ?_)
  intro W4 hx hk
  have HB5 : Hid (W4.heap[b5]? = some (Obj.cells #[.map (some bm)] 78)) := hx.out
  have HM4 : Hid (MB MII bm [] 0 W4) := HM3.out.blk (hk.out.block bm HN5.out.2)
  have HB2 : Hid (W4.heap[b2]? = some (Obj.cells #[.slice la n lc] 22)) := (hk.out.block b2 HN5.out.1).trans HB23.out
  have HL4 : Hid (Below w.heap.size w W4) := HL3.out.trans (hk.out.below HG5.out)
  clear hx hk HB53 HM3 HB23 HL3
  go_wp2_with fail
  go_loopw [15, 7, 8, 9, 10, 11] (fun iv _ _ _ _ _ wr => SmI w N (atO xs) ps m b2 b5 bm (.slice la n lc) iv wr) (fun i _ _ _ _ _ _ => m - (intOf i).toNat)
  case atStart => exact ⟨⟨0, [], 0, by omega, rfl, HM4.out, mm_nil _⟩, HB2.out, HB5.out, HL4.out⟩
  case round =>
    obtain ⟨⟨i, es, ec, hi, rfl, hmb, hmm⟩, hx2, hx5, hbl⟩ := hrel
    obtain ⟨wz, hwz⟩ : ∃ y, wr = y := ⟨_, rfl⟩
    rw [hwz] at hmb hx2 hx5 hbl ⊢
    have HMB : Hid (MB MII bm es ec wz) := hmb
    have HMM : Hid (MmOk (atO xs) (ps.take i) (mget es)) := hmm
    have HX2 : Hid (wz.heap[b2]? = some (Obj.cells #[.slice la n lc] 22)) := hx2
    have HX5 : Hid (wz.heap[b5]? = some (Obj.cells #[.map (some bm)] 78)) := hx5
    have HBL : Hid (Below w.heap.size w wz) := hbl
    clear hmb hmm hx2 hx5 hbl hwz HB2 HB5 HL4 HM4
    by_cases hlt : i < m
    case neg =>
      have hii : ¬ (i : Int) < (m : Int) := by omega
      have HMA : Hid (MmOk (atO xs) ps (mget es)) := by
        have h5 := HMM.out
        rw [List.take_of_length_le (by have := HM.out; omega)] at h5
        exact h5
      have HO4 : Hid (OwnL EN N wz (.slice va m vc) ps) := HO.out.bel HBL.out
      rcases va with _ | ad
      case none =>
        obtain ⟨rfl, rfl⟩ := HNIL.out rfl
        have HYN : Hid (ys = []) := by
          have h6 : ps = [] := List.length_eq_zero_iff.1 HM.out
          show _ = _
          rw [← HYS.out, h6]
          rfl
        go_wp2_with fail
        refine (del71_nil _ _ wz).mono ?_
        rintro e W5 ⟨rfl, q, hw5⟩
        have HE : Hid (SkPost w N (.slice none 0 0) ys (.returned (.slice none 0 0)) W5) := by
          rw [HYN.out, hw5]
          have hb := HBL.out.trans ((dn_bel wz q).mono HBL.out.size)
          exact ⟨_, rfl, OwnL.nil _ _ _, ⟨hb.os, hb.tape, hb.output, hb.size, fun k hk _ => hb.block k hk⟩, .inl rfl⟩
        clear hw5
        go_wp2_with fail
        go_ret
        exact HE.out
      case some =>
        obtain ⟨g, rfl, hgN, hgl⟩ : ∃ g, ad = ⟨g, 0, none⟩ ∧ N ≤ g ∧ g < w.heap.size := by
          rcases HO.out.row.2 with ⟨h1, h2⟩ | ⟨g', c, cur, h1, h2, h3, h4⟩
          · cases h1
          · cases h1
            exact ⟨g', rfl, h2, lt1 h3⟩
        have HGL : Hid (N ≤ g ∧ g < w.heap.size) := ⟨hgN, hgl⟩
        clear hgN hgl
        have HDE := del71_any (.pointer (some ⟨b2, 0, none⟩)) (.pointer (some ⟨b5, 0, none⟩)) (fun i => decide (gotI es (nbP (atO xs i)) < (atO xs i).med)) N g m vc ps HM.out wz HO4.out (fun W hW j hj => by
          have hj2 := HIN.out j hj
          have hxj : j < xs.length := by rw [HXN.out]; exact hj2
          have hbW : Below N w W := (HBL.out.mono HNN.out).trans (hW.below HGL.out.1)
          have hxW := HX.out.bel hbW
          obtain ⟨lb, lo, e, h2⟩ := hxW.at j hxj
          have hp := (hxW.rd W (Below.refl _ _)).2 xs[j] (List.getElem_mem hxj)
          rw [atO_is hxj]
          have h6 := HGL.out.2
          have c2 := cell1 ((hW.block b2 (by have := HG2.out; omega)).trans HX2.out)
          rw [e] at c2
          exact c71_any b2 b5 bm es ec lb lo n lc j _ _ W c2 (cell1 ((hW.block b5 (by have := HG5.out; omega)).trans HX5.out)) (HMB.out.blk (hW.block bm (by have := HGM.out; omega))) hj2 h2 hp) ys (by rw [mm_del HMA.out]; exact HYS.out)
        go_wp2_with fail
        refine HDE.mono ?_
        rintro e W5 ⟨rfl, ho5, hk5⟩
        have HE : Hid (SkPost w N (.slice (some ⟨g, 0, none⟩) m vc) ys (.returned (.slice (some ⟨g, 0, none⟩) ys.length vc)) W5) := by
          have hb := (HBL.out.mono HNN.out).trans (hk5.below HGL.out.1)
          exact ⟨_, rfl, ho5, ⟨hb.os, hb.tape, hb.output, Nat.le_trans HBL.out.size hk5.str.size, fun k hk hne => (hk5.block k (fun e => hne (by rw [e]; rfl))).trans (HBL.out.block k hk)⟩, .inl rfl⟩
        clear ho5 hk5 HDE
        go_wp2_with fail
        go_ret
        exact HE.out
    have hii : (i : Int) < (m : Int) := by omega
    have ii0 : (0 : Int) ≤ (i : Int) := by omega
    have hip : i < ps.length := by rw [HM.out]; exact hlt
    obtain ⟨j, hj⟩ : ∃ y, ps[i] = y := ⟨_, rfl⟩
    have hjn : j < n := HIN.out j (hj ▸ List.getElem_mem hip)
    have hxj : j < xs.length := by rw [HXN.out]; exact hjn
    have hjj : (j : Int) < (n : Int) := by omega
    have jj0 : (0 : Int) ≤ (j : Int) := by omega
    obtain ⟨g, rfl, cg⟩ : ∃ g, va = some ⟨g, 0, none⟩ ∧ wz.cell? ⟨g, i, none⟩ = some (.int .i64 (j : Int)) := by
      have h5 := HO.out.bel HBL.out
      rcases h5.row.2 with ⟨h1, h2⟩ | ⟨g', c, cur, h1, h2, h3, h4⟩
      · have := HM.out; omega
      · cases h1
        have h6 := lst_if h5 i hip
        rw [hj] at h6
        exact ⟨g', rfl, h6⟩
    have hbW : Below N w wz := HBL.out.mono HNN.out
    have hxW := HX.out.bel hbW
    obtain ⟨lb, lo, rfl, h2⟩ := hxW.at j hxj
    have hp := (hxW.rd wz (Below.refl _ _)).2 xs[j] (List.getElem_mem hxj)
    have HNB := nb_any lb (lo + j * 13) xs[j].1 xs[j].2 wz.drew h2 (hp.keep (Nat.le_refl _) (fun _ _ _ _ => rfl))
    have cm : wz.cell? ⟨lb, lo + j * 13 + 5, none⟩ = some (.int .i64 xs[j].1.med) := h2 5 (by decide)
    have c2 := cell1 HX2.out
    have HNX : Hid (ps.take (i + 1) = ps.take i ++ [j]) := by show _ = _; rw [← hj]; exact (List.take_append_getElem hip).symm
    have HNBX : Hid (nbP (atO xs j) = nbP xs[j].1 ∧ (atO xs j).med = xs[j].1.med) := by rw [atO_is hxj]; exact ⟨rfl, rfl⟩
    obtain ⟨nb, hnb⟩ : ∃ y, nbP xs[j].1 = y := ⟨_, rfl⟩
    obtain ⟨md, hmd⟩ : ∃ y, xs[j].1.med = y := ⟨_, rfl⟩
    rw [hnb] at HNB HNBX
    rw [hmd] at cm HNBX
    obtain ⟨wd, hwd⟩ : ∃ y, wz.drew = y := ⟨_, rfl⟩
    have d2 : wd.cell? ⟨b2, 0, none⟩ = some (.slice (some ⟨lb, lo, none⟩) n lc) := by rw [← hwd]; exact c2
    have dm : wd.cell? ⟨lb, lo + j * 13 + 5, none⟩ = some (.int .i64 md) := by rw [← hwd]; exact cm
    have HMBD : Hid (MB MII bm es ec wd) := by rw [← hwd]; exact HMB.out
    have HX2D : Hid (wd.heap[b2]? = some (Obj.cells #[.slice (some ⟨lb, lo, none⟩) n lc] 22)) := by rw [← hwd]; exact HX2.out
    have HX5D : Hid (wd.heap[b5]? = some (Obj.cells #[.map (some bm)] 78)) := by rw [← hwd]; exact HX5.out
    have HBLD : Hid (Below w.heap.size w wd) := by rw [← hwd]; exact HBL.out.trans ((drew_bel wz).mono HBL.out.size)
    have d5 := cell1 HX5D.out
    rw [hwd] at HNB
    have HWD : Hid (wz.drew = wd) := hwd
    clear hj hnb hmd h2 hp hbW hxW hwd cm
    go_wp2_with fail
    refine wp_region_held_drew (S := fun W => W = wd) (by kernel_rfl) HWD.out (fun hHeld => ?_)
    rw [HWD.out] at hHeld ⊢
    refine wpAnyH_take (i := 0) (v := .slice (some ⟨lb, lo, none⟩) n lc) rfl (by kernel_rfl) (by kernel_rfl) (by kernel_rfl) (fun _ _ _ h => h) (Or.inl ⟨by rfl, ?_⟩) (by assumption) ?_
    case refine_1 => intro W hSw; rw [hSw]; go_simp; try rfl
    try simp only [Act.put, List.getElem_toArray, List.getElem_cons_zero, List.getElem_cons_succ, List.setIfInBounds_toArray, List.set_cons_zero, List.set_cons_succ]
    refine wpAnyH_take (i := 1) (v := .int .i64 (j : Int)) rfl (by kernel_rfl) (by kernel_rfl) (by kernel_rfl) (fun _ _ _ h => h) (Or.inl ⟨by rfl, ?_⟩) (by assumption) ?_
    case refine_1 => intro W hSw; rw [hSw]; go_simp; try rfl
    try simp only [Act.put, List.getElem_toArray, List.getElem_cons_zero, List.getElem_cons_succ, List.setIfInBounds_toArray, List.set_cons_zero, List.set_cons_succ]
    refine wpAnyH_take (i := 2) (v := .pointer (some ⟨lb, lo + j * 13, none⟩)) rfl (by kernel_rfl) (by kernel_rfl) (by kernel_rfl) (fun _ _ _ h => h) (Or.inl ⟨by rfl, ?_⟩) (by assumption) ?_
    case refine_1 => intro W hSw; rw [hSw]; go_simp; try rfl
    try simp only [Act.put, List.getElem_toArray, List.getElem_cons_zero, List.getElem_cons_succ, List.setIfInBounds_toArray, List.set_cons_zero, List.set_cons_succ]
    refine wpAnyH_take (i := 4) (v := .slice (some ⟨lb, lo, none⟩) n lc) rfl (by kernel_rfl) (by kernel_rfl) (by kernel_rfl) (fun _ _ _ h => h) (Or.inl ⟨by rfl, ?_⟩) (by assumption) ?_
    case refine_1 => intro W hSw; rw [hSw]; go_simp; try rfl
    try simp only [Act.put, List.getElem_toArray, List.getElem_cons_zero, List.getElem_cons_succ, List.setIfInBounds_toArray, List.set_cons_zero, List.set_cons_succ]
    refine wpAnyH_take (i := 5) (v := .int .i64 (j : Int)) rfl (by kernel_rfl) (by kernel_rfl) (by kernel_rfl) (fun _ _ _ h => h) (Or.inl ⟨by rfl, ?_⟩) (by assumption) ?_
    case refine_1 => intro W hSw; rw [hSw]; go_simp; try rfl
    try simp only [Act.put, List.getElem_toArray, List.getElem_cons_zero, List.getElem_cons_succ, List.setIfInBounds_toArray, List.set_cons_zero, List.set_cons_succ]
    refine wpAnyH_take (i := 6) (v := .pointer (some ⟨lb, lo + j * 13, none⟩)) rfl (by kernel_rfl) (by kernel_rfl) (by kernel_rfl) (fun _ _ _ h => h) (Or.inl ⟨by rfl, ?_⟩) (by assumption) ?_
    case refine_1 => intro W hSw; rw [hSw]; go_simp; try rfl
    try simp only [Act.put, List.getElem_toArray, List.getElem_cons_zero, List.getElem_cons_succ, List.setIfInBounds_toArray, List.set_cons_zero, List.set_cons_succ]
    refine wpAnyH_take (i := 7) (v := .pointer (some ⟨lb, lo + j * 13, none⟩)) rfl (by kernel_rfl) (by kernel_rfl) (by kernel_rfl) (fun _ _ _ h => h) (Or.inl ⟨by rfl, ?_⟩) (by assumption) ?_
    case refine_1 => intro W hSw; rw [hSw]; go_simp; try rfl
    try simp only [Act.put, List.getElem_toArray, List.getElem_cons_zero, List.getElem_cons_succ, List.setIfInBounds_toArray, List.set_cons_zero, List.set_cons_succ]
    refine wpAnyH_take (i := 8) (v := .pointer (some ⟨lb, lo + j * 13 + 5, none⟩)) rfl (by kernel_rfl) (by kernel_rfl) (by kernel_rfl) (fun _ _ _ h => h) (Or.inl ⟨by rfl, ?_⟩) (by assumption) ?_
    case refine_1 => intro W hSw; rw [hSw]; go_simp; try rfl
    try simp only [Act.put, List.getElem_toArray, List.getElem_cons_zero, List.getElem_cons_succ, List.setIfInBounds_toArray, List.set_cons_zero, List.set_cons_succ]
    refine wpAnyH_take (i := 9) (v := .int .i64 md) rfl (by kernel_rfl) (by kernel_rfl) (by kernel_rfl) (fun _ _ _ h => h) (Or.inl ⟨by rfl, ?_⟩) (by assumption) ?_
    case refine_1 => intro W hSw; rw [hSw]; go_simp; try rfl
    try simp only [Act.put, List.getElem_toArray, List.getElem_cons_zero, List.getElem_cons_succ, List.setIfInBounds_toArray, List.set_cons_zero, List.set_cons_succ]
    refine wpAnyH_ready (rs := [3]) (by kernel_rfl) (by simp) ?_
    refine AllReadyH.cons rfl (fun K hK => ?_) AllReadyH.nil
    go_simp
    refine HNB.mono ?_
    rintro e we ⟨rfl, hwe⟩
    rw [hwe]
    clear hwe we
    refine hK.out _ _ rfl (fun hHeld => ?_)
    clear hK K
    try simp only [Act.put, List.getElem_toArray, List.getElem_cons_zero, List.getElem_cons_succ, List.setIfInBounds_toArray, List.set_cons_zero, List.set_cons_succ]
    refine wpAnyH_take (i := 10) (v := .int .i64 nb) rfl (by kernel_rfl) (by kernel_rfl) (by kernel_rfl) (fun _ _ _ h => h) (Or.inl ⟨by rfl, ?_⟩) (by assumption) ?_
    case refine_1 => intro W hSw; rw [hSw]; go_simp; try rfl
    try simp only [Act.put, List.getElem_toArray, List.getElem_cons_zero, List.getElem_cons_succ, List.setIfInBounds_toArray, List.set_cons_zero, List.set_cons_succ]
    refine wpAnyH_take (i := 11) (v := .int .i64 md) rfl (by kernel_rfl) (by kernel_rfl) (by kernel_rfl) (fun _ _ _ h => h) (Or.inl ⟨by rfl, ?_⟩) (by assumption) ?_
    case refine_1 => intro W hSw; rw [hSw]; go_simp; try rfl
    try simp only [Act.put, List.getElem_toArray, List.getElem_cons_zero, List.getElem_cons_succ, List.setIfInBounds_toArray, List.set_cons_zero, List.set_cons_succ]
    refine wpAnyH_done (by kernel_rfl) ?_ _
    clear hHeld HWD c2 cg
    cases hmg : mget es nb with
    | none =>
      have HKN : Hid (knows (mget es) (atO xs j) = false) := by show _ = _; unfold knows; rw [HNBX.out.1, hmg]
      have HGT : Hid (MII.got es nb = .int .i64 0 ∧ (mget es nb).isSome = false) := ⟨by rw [got_i]; unfold gotI; rw [hmg]; rfl, by rw [hmg]; rfl⟩
      clear hmg
      go_wp2_with (first | (refine list_look2 MII rfl _ _ rfl (k := nb) rfl rfl HMBD.out ?_; rw [HGT.out.1, HGT.out.2]) | (refine list_put MII rfl _ _ _ rfl (k := nb) (u := md) rfl rfl rfl HMBD.out ?_))
      intro W6 hm6 hk6
      have HE : Hid (SmI w N (atO xs) ps m b2 b5 bm (.slice (some ⟨lb, lo, none⟩) n lc) (.int .i64 ((i + 1 : Nat) : Int)) W6) := by
        refine ⟨⟨i + 1, _, _, by omega, rfl, hm6.out, ?_⟩, (hk6.out.block b2 HN2M.out.1).trans HX2D.out, (hk6.out.block b5 HN2M.out.2).trans HX5D.out, HBLD.out.trans (hk6.out.below HGM.out)⟩
        rw [HNX.out]
        have h7 := mm_put (c := ec) HMM.out HKN.out
        rw [HNBX.out.1, HNBX.out.2] at h7
        exact h7
      clear hm6 hk6
      go_wp2_with fail
      refine ⟨?_, ?_⟩
      · first | exact HE.out | simpa using HE.out
      · simp [intOf]
        omega
    | some kn =>
      have HGT : Hid (MII.got es nb = .int .i64 kn ∧ (mget es nb).isSome = true) := ⟨by rw [got_i]; unfold gotI; rw [hmg]; rfl, by rw [hmg]; rfl⟩
      by_cases hlk : md < kn
      case pos =>
        have HKN : Hid (knows (mget es) (atO xs j) = false) := by
          show _ = _
          unfold knows
          rw [HNBX.out.1, hmg, HNBX.out.2]
          simpa using hlk
        clear hmg
        go_wp2_with (first | (refine list_look2 MII rfl _ _ rfl (k := nb) rfl rfl HMBD.out ?_; rw [HGT.out.1, HGT.out.2]) | (refine list_put MII rfl _ _ _ rfl (k := nb) (u := md) rfl rfl rfl HMBD.out ?_))
        intro W6 hm6 hk6
        have HE : Hid (SmI w N (atO xs) ps m b2 b5 bm (.slice (some ⟨lb, lo, none⟩) n lc) (.int .i64 ((i + 1 : Nat) : Int)) W6) := by
          refine ⟨⟨i + 1, _, _, by omega, rfl, hm6.out, ?_⟩, (hk6.out.block b2 HN2M.out.1).trans HX2D.out, (hk6.out.block b5 HN2M.out.2).trans HX5D.out, HBLD.out.trans (hk6.out.below HGM.out)⟩
          rw [HNX.out]
          have h7 := mm_put (c := ec) HMM.out HKN.out
          rw [HNBX.out.1, HNBX.out.2] at h7
          exact h7
        clear hm6 hk6
        go_wp2_with fail
        refine ⟨?_, ?_⟩
        · first | exact HE.out | simpa using HE.out
        · simp [intOf]
          omega
      case neg =>
        have HKN : Hid (knows (mget es) (atO xs j) = true) := by
          show _ = _
          unfold knows
          rw [HNBX.out.1, hmg, HNBX.out.2]
          simpa using hlk
        clear hmg
        go_wp2_with (refine list_look2 MII rfl _ _ rfl (k := nb) rfl rfl HMBD.out ?_; rw [HGT.out.1, HGT.out.2])
        refine ⟨⟨⟨i + 1, es, ec, by omega, by simp, HMBD.out, by rw [HNX.out]; exact mm_keep HMM.out HKN.out⟩, HX2D.out, HX5D.out, HBLD.out⟩, ?_⟩
        simp [intOf]
        omega
end Go.Proofs.Ytkahjibdmhaglaa.Ch
