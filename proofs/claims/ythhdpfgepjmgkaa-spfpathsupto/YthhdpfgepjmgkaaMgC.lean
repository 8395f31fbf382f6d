/- spfPlace: an edge is put at its place. spfAdd: a way is put at its place; spfFind. -/
import Derived.Test.YthhdpfgepjmgkaaMgA
import Derived.Test.YthhdpfgepjmgkaaMgB
namespace Go.Proofs.Ythhdpfgepjmgkaa.Dj
open Go.ChangeShapes Go.WideShapes Go.ChangeAt Go.RowKit Go.Joins Go.Deep Go.Proofs.Ythhdpfgepjmgkaa.Ge
set_option linter.unusedVariables false
set_option linter.unusedSimpArgs false

def PlPost (w : World) (l : List Ed) (e : Ed) (en : Ending) (w' : World) : Prop := ∃ (k : Nat) (v : Value), en = .returned v ∧ k ≤ l.length ∧ (∀ j x, j < k → l[j]? = some x → eLt x e) ∧ (∀ x, l[k]? = some x → ¬ eLt x e) ∧ OwnL EE w.heap.size w' v (l.take k ++ e :: l.drop k) ∧ Below w.heap.size w w'
theorem own_sl {α : Type} {E : El α} {N : Nat} {w : World} {v : Value} {xs : List α} (h : OwnL E N w v xs) : ∃ a c, v = .slice a xs.length c := by obtain ⟨a, c, e, -⟩ := h.form; exact ⟨a, c, e⟩
theorem list_ebuild {ops : Array Oper} {rest : List Oper} {o : Oper} {ac : Act} {Q : Exit → Act → World → Prop} {W : World} (hgd : o.guard = none) (x : Operand) (ho : o.op = .buildSlice 22 1 #[(0, x)]) {m : Ed} (hx : ac.eval x = .agg (edL m).toArray)
    (k : ∀ b W', Hid (W.heap.size = b) → Hid (Lst EE W' (some ⟨b, 0, none⟩) [m]) → Hid (Below W.heap.size W W') → wpList Try.prog ops Q rest (ac.put o.dst (.slice (some ⟨b, 0, none⟩) 1 1)) W') : wpList Try.prog ops Q (o :: rest) ac W := by
  refine wpList_plain hgd fun K hK => ?_
  unfold Oper.wp
  rw [ebuild_run x ho hx]
  exact hK _ _ (k _ _ rfl ((own_made EE (W := W) [m] 1 rfl (by decide) rfl).1.lst.1) ((Below.refl _ W).alloc (Nat.le_refl _) _))
theorem list_bnew {α : Type} (E : El α) {ops : Array Oper} {rest : List Oper} {o : Oper} {ac : Act} {Q : Exit → Act → World → Prop} {W : World} (hgd : o.guard = none) (t : TypeId) (htt : t = E.t) (ho : o.op = .buildSlice t 0 #[])
    (hr : (execOp ac.eval o).run Try.prog W = .ok (.value (.slice (some ⟨W.heap.size, 0, none⟩) 0 0)) (W.alloc (Obj.cells #[] E.e)))
    (k : ∀ b W', Hid (W.heap.size = b) → Hid (OwnL E W.heap.size W' (.slice (some ⟨b, 0, none⟩) 0 0) []) → Hid (Below W.heap.size W W') → wpList Try.prog ops Q rest (ac.put o.dst (.slice (some ⟨b, 0, none⟩) 0 0)) W') : wpList Try.prog ops Q (o :: rest) ac W := by
  refine wpList_plain hgd fun K hK => ?_
  unfold Oper.wp
  rw [hr]
  have h2 := own_made0 E (W := W) rfl
  exact hK _ _ (k _ _ rfl h2.1 h2.2)
set_option maxRecDepth 100000 in
set_option maxHeartbeats 32000000 in
theorem place_any (N : Nat) (a : Option Addr) (n c : Nat) (l : List Ed) (e : Ed) (w : World) (hb : n < 1000000000) (h : OwnL EE N w (.slice a n c) l) : Calls Try.prog 32 #[.slice a n c, .agg (edL e).toArray] w (PlPost w l e) := by
  obtain ⟨hfa, hfn, hfc, hfz⟩ := h.addr
  have HX : Hid (OwnL EE N w (.slice a n c) l ∧ l.length = n ∧ n ≤ c ∧ (a = none → n = 0 ∧ c = 0) ∧ (a = none ∨ ∃ b f, a = some ⟨b, f, none⟩) ∧ n < 1000000000) := ⟨h, hfn, hfc, hfz, hfa, hb⟩
  have HL : Hid (Lst EE w a l) := h.lst.1
  have hn0 : (n : Int) < 1000000000 := by omega
  have hn2 : (0 : Int) ≤ (n : Int) := by omega
  clear h hfn hfc hfz hfa hb
  go_enter Try.func32, Try.ntmps32
  go_wp2_with (refine list_boxl EdK rfl _ rfl (cs := edL e) rfl ?_)
  intro b3 w1 hb hs hbl
  have HS1 : Hid (SB EdK b3 (edL e) w1) := hs.out
  have HB1 : Hid (w.heap.size ≤ b3 ∧ Below w.heap.size w w1) := ⟨by rw [hb.out]; exact Nat.le_refl _, hbl.out⟩
  clear hb hs hbl
  go_wp2_with fail
  go_loopw [5] (fun iv wr => ∃ (k : Nat), k ≤ n ∧ iv = .int .i64 (k : Int) ∧ Below w.heap.size w wr ∧ SB EdK b3 (edL e) wr ∧ ∀ j x, j < k → l[j]? = some x → eLt x e) (fun iv _ => n - (intOf iv).toNat)
  case atStart => exact ⟨0, Nat.zero_le _, rfl, HB1.out.2, HS1.out, fun j x h => absurd h (Nat.not_lt_zero j)⟩
  case round =>
    obtain ⟨k, hkn, rfl, hbl, hsb, hlt⟩ := hrel
    obtain ⟨wz, hwz⟩ : ∃ y, wr = y := ⟨_, rfl⟩
    rw [hwz] at hbl hsb ⊢
    have HI : Hid (Below w.heap.size w wz ∧ SB EdK b3 (edL e) wz ∧ k ≤ n ∧ ∀ j x, j < k → l[j]? = some x → eLt x e) := ⟨hbl, hsb, hkn, hlt⟩
    have hk0 : (k : Int) < 1000000000 := by omega
    have hk2 : (0 : Int) ≤ (k : Int) := by omega
    clear hbl hsb hlt hwz
    obtain ⟨wd, hwd⟩ : ∃ y, wz.drew = y := ⟨_, rfl⟩
    have HWD : Hid (wz.drew = wd) := hwd
    have HBD : Hid (Below w.heap.size w wd) := by rw [← hwd]; exact HI.out.1.trans ((drew_bel wz).mono HI.out.1.size)
    have HSD : Hid (SB EdK b3 (edL e) wd) := by rw [← hwd]; exact HI.out.2.1.blk ((drew_bel wz).block b3 HI.out.2.1.lt)
    clear hwd
    by_cases hkl : k < n
    case neg =>
      have hkk : ¬ (k : Int) < (n : Int) := by omega
      have HST : Hid (∀ x, l[k]? = some x → ¬ eLt x e) := fun x hx => by have h1 := (List.getElem?_eq_some_iff.1 hx).1; have h2 := HX.out.2.1; omega
      go_upto_region 2 with fail
      refine wp_region_held_drew (S := fun W => W = wd) (by kernel_rfl) HWD.out (fun hHeld => ?_)
      rw [HWD.out] at hHeld ⊢
      refine wpAnyH_take (i := 0) (v := .int .i64 (k : Int)) rfl (by kernel_rfl) (by kernel_rfl) (by kernel_rfl) (fun _ _ _ h => h) (Or.inl ⟨by rfl, ?_⟩) (by assumption) ?_
      case refine_1 => intro W hSw; go_simp; try rfl
      try simp only [Act.put, List.getElem_toArray, List.getElem_cons_zero, List.getElem_cons_succ, List.setIfInBounds_toArray, List.set_cons_zero, List.set_cons_succ]
      refine wpAnyH_take (i := 1) (v := .slice a n c) rfl (by kernel_rfl) (by kernel_rfl) (by kernel_rfl) (fun _ _ _ h => h) (Or.inl ⟨by rfl, ?_⟩) (by assumption) ?_
      case refine_1 => intro W hSw; go_simp; try rfl
      try simp only [Act.put, List.getElem_toArray, List.getElem_cons_zero, List.getElem_cons_succ, List.setIfInBounds_toArray, List.set_cons_zero, List.set_cons_succ]
      refine wpAnyH_take (i := 2) (v := .int .i64 (n : Int)) rfl (by kernel_rfl) (by kernel_rfl) (by kernel_rfl) (fun _ _ _ h => h) (Or.inl ⟨by rfl, ?_⟩) (by assumption) ?_
      case refine_1 => intro W hSw; go_simp; try rfl
      try simp only [Act.put, List.getElem_toArray, List.getElem_cons_zero, List.getElem_cons_succ, List.setIfInBounds_toArray, List.set_cons_zero, List.set_cons_succ]
      refine wpAnyH_take (i := 3) (v := .bool false) rfl (by kernel_rfl) (by kernel_rfl) (by kernel_rfl) (fun _ _ _ h => h) (Or.inl ⟨by rfl, ?_⟩) (by assumption) ?_
      case refine_1 => intro W hSw; go_simp; try rfl
      try simp only [Act.put, List.getElem_toArray, List.getElem_cons_zero, List.getElem_cons_succ, List.setIfInBounds_toArray, List.set_cons_zero, List.set_cons_succ]
      refine wpAnyH_take (i := 4) (v := .bool false) rfl (by kernel_rfl) (by kernel_rfl) (by kernel_rfl) (fun _ _ _ h => h) (Or.inl ⟨by rfl, ?_⟩) (by assumption) ?_
      case refine_1 => intro W hSw; go_simp; try rfl
      try simp only [Act.put, List.getElem_toArray, List.getElem_cons_zero, List.getElem_cons_succ, List.setIfInBounds_toArray, List.set_cons_zero, List.set_cons_succ]
      refine wpAnyH_take (i := 5) (v := undef) rfl (by kernel_rfl) (by kernel_rfl) (by kernel_rfl) (fun _ _ _ h => h) (Or.inr ⟨by rfl, rfl⟩) (by assumption) ?_
      try simp only [Act.put, List.getElem_toArray, List.getElem_cons_zero, List.getElem_cons_succ, List.setIfInBounds_toArray, List.set_cons_zero, List.set_cons_succ]
      refine wpAnyH_take (i := 6) (v := undef) rfl (by kernel_rfl) (by kernel_rfl) (by kernel_rfl) (fun _ _ _ h => h) (Or.inr ⟨by rfl, rfl⟩) (by assumption) ?_
      try simp only [Act.put, List.getElem_toArray, List.getElem_cons_zero, List.getElem_cons_succ, List.setIfInBounds_toArray, List.set_cons_zero, List.set_cons_succ]
      refine wpAnyH_take (i := 7) (v := undef) rfl (by kernel_rfl) (by kernel_rfl) (by kernel_rfl) (fun _ _ _ h => h) (Or.inr ⟨by rfl, rfl⟩) (by assumption) ?_
      try simp only [Act.put, List.getElem_toArray, List.getElem_cons_zero, List.getElem_cons_succ, List.setIfInBounds_toArray, List.set_cons_zero, List.set_cons_succ]
      refine wpAnyH_take (i := 8) (v := undef) rfl (by kernel_rfl) (by kernel_rfl) (by kernel_rfl) (fun _ _ _ h => h) (Or.inr ⟨by rfl, rfl⟩) (by assumption) ?_
      try simp only [Act.put, List.getElem_toArray, List.getElem_cons_zero, List.getElem_cons_succ, List.setIfInBounds_toArray, List.set_cons_zero, List.set_cons_succ]
      refine wpAnyH_take (i := 9) (v := undef) rfl (by kernel_rfl) (by kernel_rfl) (by kernel_rfl) (fun _ _ _ h => h) (Or.inr ⟨by rfl, rfl⟩) (by assumption) ?_
      try simp only [Act.put, List.getElem_toArray, List.getElem_cons_zero, List.getElem_cons_succ, List.setIfInBounds_toArray, List.set_cons_zero, List.set_cons_succ]
      refine wpAnyH_take (i := 10) (v := undef) rfl (by kernel_rfl) (by kernel_rfl) (by kernel_rfl) (fun _ _ _ h => h) (Or.inr ⟨by rfl, rfl⟩) (by assumption) ?_
      try simp only [Act.put, List.getElem_toArray, List.getElem_cons_zero, List.getElem_cons_succ, List.setIfInBounds_toArray, List.set_cons_zero, List.set_cons_succ]
      refine wpAnyH_take (i := 11) (v := undef) rfl (by kernel_rfl) (by kernel_rfl) (by kernel_rfl) (fun _ _ _ h => h) (Or.inr ⟨by rfl, rfl⟩) (by assumption) ?_
      try simp only [Act.put, List.getElem_toArray, List.getElem_cons_zero, List.getElem_cons_succ, List.setIfInBounds_toArray, List.set_cons_zero, List.set_cons_succ]
      refine wpAnyH_take (i := 12) (v := undef) rfl (by kernel_rfl) (by kernel_rfl) (by kernel_rfl) (fun _ _ _ h => h) (Or.inr ⟨by rfl, rfl⟩) (by assumption) ?_
      try simp only [Act.put, List.getElem_toArray, List.getElem_cons_zero, List.getElem_cons_succ, List.setIfInBounds_toArray, List.set_cons_zero, List.set_cons_succ]
      refine wpAnyH_take (i := 13) (v := undef) rfl (by kernel_rfl) (by kernel_rfl) (by kernel_rfl) (fun _ _ _ h => h) (Or.inr ⟨by rfl, rfl⟩) (by assumption) ?_
      try simp only [Act.put, List.getElem_toArray, List.getElem_cons_zero, List.getElem_cons_succ, List.setIfInBounds_toArray, List.set_cons_zero, List.set_cons_succ]
      refine wpAnyH_take (i := 14) (v := undef) rfl (by kernel_rfl) (by kernel_rfl) (by kernel_rfl) (fun _ _ _ h => h) (Or.inr ⟨by rfl, rfl⟩) (by assumption) ?_
      try simp only [Act.put, List.getElem_toArray, List.getElem_cons_zero, List.getElem_cons_succ, List.setIfInBounds_toArray, List.set_cons_zero, List.set_cons_succ]
      refine wpAnyH_take (i := 15) (v := undef) rfl (by kernel_rfl) (by kernel_rfl) (by kernel_rfl) (fun _ _ _ h => h) (Or.inr ⟨by rfl, rfl⟩) (by assumption) ?_
      try simp only [Act.put, List.getElem_toArray, List.getElem_cons_zero, List.getElem_cons_succ, List.setIfInBounds_toArray, List.set_cons_zero, List.set_cons_succ]
      refine wpAnyH_take (i := 16) (v := undef) rfl (by kernel_rfl) (by kernel_rfl) (by kernel_rfl) (fun _ _ _ h => h) (Or.inr ⟨by rfl, rfl⟩) (by assumption) ?_
      try simp only [Act.put, List.getElem_toArray, List.getElem_cons_zero, List.getElem_cons_succ, List.setIfInBounds_toArray, List.set_cons_zero, List.set_cons_succ]
      refine wpAnyH_take (i := 17) (v := undef) rfl (by kernel_rfl) (by kernel_rfl) (by kernel_rfl) (fun _ _ _ h => h) (Or.inr ⟨by rfl, rfl⟩) (by assumption) ?_
      try simp only [Act.put, List.getElem_toArray, List.getElem_cons_zero, List.getElem_cons_succ, List.setIfInBounds_toArray, List.set_cons_zero, List.set_cons_succ]
      refine wpAnyH_take (i := 18) (v := undef) rfl (by kernel_rfl) (by kernel_rfl) (by kernel_rfl) (fun _ _ _ h => h) (Or.inr ⟨by rfl, rfl⟩) (by assumption) ?_
      try simp only [Act.put, List.getElem_toArray, List.getElem_cons_zero, List.getElem_cons_succ, List.setIfInBounds_toArray, List.set_cons_zero, List.set_cons_succ]
      refine wpAnyH_take (i := 19) (v := undef) rfl (by kernel_rfl) (by kernel_rfl) (by kernel_rfl) (fun _ _ _ h => h) (Or.inr ⟨by rfl, rfl⟩) (by assumption) ?_
      try simp only [Act.put, List.getElem_toArray, List.getElem_cons_zero, List.getElem_cons_succ, List.setIfInBounds_toArray, List.set_cons_zero, List.set_cons_succ]
      refine wpAnyH_take (i := 20) (v := undef) rfl (by kernel_rfl) (by kernel_rfl) (by kernel_rfl) (fun _ _ _ h => h) (Or.inr ⟨by rfl, rfl⟩) (by assumption) ?_
      try simp only [Act.put, List.getElem_toArray, List.getElem_cons_zero, List.getElem_cons_succ, List.setIfInBounds_toArray, List.set_cons_zero, List.set_cons_succ]
      refine wpAnyH_take (i := 21) (v := undef) rfl (by kernel_rfl) (by kernel_rfl) (by kernel_rfl) (fun _ _ _ h => h) (Or.inr ⟨by rfl, rfl⟩) (by assumption) ?_
      try simp only [Act.put, List.getElem_toArray, List.getElem_cons_zero, List.getElem_cons_succ, List.setIfInBounds_toArray, List.set_cons_zero, List.set_cons_succ]
      refine wpAnyH_take (i := 22) (v := undef) rfl (by kernel_rfl) (by kernel_rfl) (by kernel_rfl) (fun _ _ _ h => h) (Or.inr ⟨by rfl, rfl⟩) (by assumption) ?_
      try simp only [Act.put, List.getElem_toArray, List.getElem_cons_zero, List.getElem_cons_succ, List.setIfInBounds_toArray, List.set_cons_zero, List.set_cons_succ]
      refine wpAnyH_take (i := 23) (v := undef) rfl (by kernel_rfl) (by kernel_rfl) (by kernel_rfl) (fun _ _ _ h => h) (Or.inr ⟨by rfl, rfl⟩) (by assumption) ?_
      try simp only [Act.put, List.getElem_toArray, List.getElem_cons_zero, List.getElem_cons_succ, List.setIfInBounds_toArray, List.set_cons_zero, List.set_cons_succ]
      refine wpAnyH_take (i := 24) (v := undef) rfl (by kernel_rfl) (by kernel_rfl) (by kernel_rfl) (fun _ _ _ h => h) (Or.inr ⟨by rfl, rfl⟩) (by assumption) ?_
      try simp only [Act.put, List.getElem_toArray, List.getElem_cons_zero, List.getElem_cons_succ, List.setIfInBounds_toArray, List.set_cons_zero, List.set_cons_succ]
      refine wpAnyH_take (i := 25) (v := undef) rfl (by kernel_rfl) (by kernel_rfl) (by kernel_rfl) (fun _ _ _ h => h) (Or.inr ⟨by rfl, rfl⟩) (by assumption) ?_
      try simp only [Act.put, List.getElem_toArray, List.getElem_cons_zero, List.getElem_cons_succ, List.setIfInBounds_toArray, List.set_cons_zero, List.set_cons_succ]
      refine wpAnyH_take (i := 26) (v := undef) rfl (by kernel_rfl) (by kernel_rfl) (by kernel_rfl) (fun _ _ _ h => h) (Or.inr ⟨by rfl, rfl⟩) (by assumption) ?_
      try simp only [Act.put, List.getElem_toArray, List.getElem_cons_zero, List.getElem_cons_succ, List.setIfInBounds_toArray, List.set_cons_zero, List.set_cons_succ]
      refine wpAnyH_take (i := 27) (v := undef) rfl (by kernel_rfl) (by kernel_rfl) (by kernel_rfl) (fun _ _ _ h => h) (Or.inr ⟨by rfl, rfl⟩) (by assumption) ?_
      try simp only [Act.put, List.getElem_toArray, List.getElem_cons_zero, List.getElem_cons_succ, List.setIfInBounds_toArray, List.set_cons_zero, List.set_cons_succ]
      refine wpAnyH_take (i := 28) (v := undef) rfl (by kernel_rfl) (by kernel_rfl) (by kernel_rfl) (fun _ _ _ h => h) (Or.inr ⟨by rfl, rfl⟩) (by assumption) ?_
      try simp only [Act.put, List.getElem_toArray, List.getElem_cons_zero, List.getElem_cons_succ, List.setIfInBounds_toArray, List.set_cons_zero, List.set_cons_succ]
      refine wpAnyH_take (i := 29) (v := undef) rfl (by kernel_rfl) (by kernel_rfl) (by kernel_rfl) (fun _ _ _ h => h) (Or.inr ⟨by rfl, rfl⟩) (by assumption) ?_
      try simp only [Act.put, List.getElem_toArray, List.getElem_cons_zero, List.getElem_cons_succ, List.setIfInBounds_toArray, List.set_cons_zero, List.set_cons_succ]
      refine wpAnyH_take (i := 30) (v := undef) rfl (by kernel_rfl) (by kernel_rfl) (by kernel_rfl) (fun _ _ _ h => h) (Or.inr ⟨by rfl, rfl⟩) (by assumption) ?_
      try simp only [Act.put, List.getElem_toArray, List.getElem_cons_zero, List.getElem_cons_succ, List.setIfInBounds_toArray, List.set_cons_zero, List.set_cons_succ]
      refine wpAnyH_take (i := 31) (v := undef) rfl (by kernel_rfl) (by kernel_rfl) (by kernel_rfl) (fun _ _ _ h => h) (Or.inr ⟨by rfl, rfl⟩) (by assumption) ?_
      try simp only [Act.put, List.getElem_toArray, List.getElem_cons_zero, List.getElem_cons_succ, List.setIfInBounds_toArray, List.set_cons_zero, List.set_cons_succ]
      refine wpAnyH_take (i := 32) (v := undef) rfl (by kernel_rfl) (by kernel_rfl) (by kernel_rfl) (fun _ _ _ h => h) (Or.inr ⟨by rfl, rfl⟩) (by assumption) ?_
      try simp only [Act.put, List.getElem_toArray, List.getElem_cons_zero, List.getElem_cons_succ, List.setIfInBounds_toArray, List.set_cons_zero, List.set_cons_succ]
      refine wpAnyH_take (i := 33) (v := .bool false) rfl (by kernel_rfl) (by kernel_rfl) (by kernel_rfl) (fun _ _ _ h => h) (Or.inl ⟨by rfl, ?_⟩) (by assumption) ?_
      case refine_1 => intro W hSw; go_simp; try rfl
      try simp only [Act.put, List.getElem_toArray, List.getElem_cons_zero, List.getElem_cons_succ, List.setIfInBounds_toArray, List.set_cons_zero, List.set_cons_succ]
      refine wpAnyH_done (by kernel_rfl) ?_ _
      clear hHeld
      go_wp2_with (first | (refine list_bnew EE rfl _ rfl rfl (by simp [execOp, go_sem]; rfl) ?_))
      intro b4 w4 hb hs hbl
      have HB4 : Hid (Below wd.heap.size wd w4 ∧ wd.heap.size ≤ b4) := ⟨hbl.out, by rw [hb.out]; exact Nat.le_refl _⟩
      have HO4 : Hid (OwnL EE w.heap.size w4 (.slice (some ⟨b4, 0, none⟩) 0 0) []) := hs.out.mono HBD.out.size
      clear hb hs hbl
      have HL4 : Hid (Lst EE w4 a l) := HL.out.bel (HBD.out.trans (HB4.out.1.mono HBD.out.size))
      have HA : Hid ((a = none ∨ ∃ b f, a = some ⟨b, f, none⟩) ∧ (a = none → n = 0 ∧ c = 0)) := ⟨HX.out.2.2.2.2.1, HX.out.2.2.2.1⟩
      have hlk : Hid ((l.take k).length = k) := by show _ = _; rw [List.length_take]; have := HX.out.2.1; have := HI.out.2.2.1; omega
      go_wp2_with (first | (refine list_sliceh EE rfl _ _ 22 rfl rfl (a := a) (n := n) (c := c) (h := k) rfl rfl HA.out.1 (by have := HI.out.2.2.1; have := HX.out.2.2.1; omega) ?_) | (at_builtin; refine list_appL EE rfl _ _ 22 rfl rfl w.heap.size (.slice (some ⟨b4, 0, none⟩) 0 0) [] (l.take k) a k c w4 (by have := HX.out; have := HI.out.2.2.1; simp; omega) rfl HO4.out rfl (HL4.out.take k) (fun h => by have h1 := HA.out.2 h; have := HI.out.2.2.1; omega) hlk.out (Nat.le_trans HBD.out.size HB4.out.1.size) ?_))
      intro v5 w5 ho hg ha
      obtain ⟨a5, c5, rfl⟩ := own_sl ho.out
      have HO5 : Hid (OwnL EE w.heap.size w5 (.slice a5 k c5) (l.take k)) := by
        have h5 := ho.out
        try simp only [List.nil_append] at h5
        rw [hlk.out] at h5
        exact h5
      have HB5 : Hid (Below wd.heap.size wd w5) := HB4.out.1.trans ((Below.refl _ w4).grown hg.out HB4.out.1.size (fun g e => by cases e; exact HB4.out.2))
      try simp only [List.nil_append]
      rw [hlk.out]
      clear ho hg ha HO4 HL4 HB4
      have HS5 : Hid (SB EdK b3 (edL e) w5) := HSD.out.blk (HB5.out.block b3 HSD.out.lt)
      go_wp2_with (first | (refine list_sload EdK rfl _ rfl (b := b3) (cs := edL e) rfl HS5.out rfl ?_) | (refine list_ebuild rfl _ rfl (m := e) rfl ?_))
      intro b6 w6 hb hs hbl
      have HB6 : Hid (Below w5.heap.size w5 w6) := hbl.out
      have HL6 : Hid (Lst EE w6 (some ⟨b6, 0, none⟩) [e]) := hs.out
      clear hb hs hbl
      go_wp2_with (at_builtin; refine list_appL EE rfl _ _ 22 rfl rfl w.heap.size (.slice a5 k c5) (l.take k) [e] (some ⟨b6, 0, none⟩) 1 1 w6 (by have := HX.out; have := HI.out.2.2.1; have := hlk.out; omega) rfl (HO5.out.bel HB6.out) rfl HL6.out (fun h => by cases h) rfl (Nat.le_trans (Nat.le_trans HBD.out.size HB5.out.size) HB6.out.size) ?_)
      intro v7 w7 ho hg ha
      obtain ⟨a7, c7, rfl⟩ := own_sl ho.out
      have hlk1 : Hid ((l.take k ++ [e]).length = k + 1) := by show _ = _; rw [List.length_append, hlk.out]; rfl
      have HO7 : Hid (OwnL EE w.heap.size w7 (.slice a7 (k + 1) c7) (l.take k ++ [e])) := by have h5 := ho.out; rw [hlk1.out] at h5; exact h5
      have HB7 : Hid (Below w.heap.size w w7) := (HBD.out.trans ((HB5.out.trans (HB6.out.mono HB5.out.size)).mono HBD.out.size)).trans ((Below.refl _ w6).grown hg.out (Nat.le_trans (Nat.le_trans HBD.out.size HB5.out.size) HB6.out.size) (fun g e => ((HO5.out.bel HB6.out).row.lt g e).1))
      rw [hlk1.out]
      clear ho hg ha HO5 HL6 HB6
      go_wp2_with (first | (refine list_slicel EE rfl _ _ 22 rfl rfl (a := a) (n := n) (c := c) (l := k) rfl rfl l (HL.out.bel HB7.out) HX.out.2.1 HX.out.2.2.1 HA.out.2 HA.out.1 HI.out.2.2.1 ?_))
      intro va hva hvn
      go_wp2_with (at_builtin; refine list_appL EE rfl _ _ 22 rfl rfl w.heap.size (.slice a7 (k + 1) c7) (l.take k ++ [e]) (l.drop k) va (n - k) (c - k) w7 (by have := HX.out; have := HI.out.2.2.1; have := hlk1.out; omega) rfl HO7.out rfl hva.out hvn.out (by rw [List.length_drop]; have := HX.out.2.1; omega) HB7.out.size ?_)
      intro v9 w9 ho hg ha
      have HE : Hid (PlPost w l e (.returned v9) w9) := ⟨k, v9, rfl, by have := HX.out.2.1; have := HI.out.2.2.1; omega, HI.out.2.2.2, HST.out, by have h5 := ho.out; first | exact h5 | (rw [List.append_assoc] at h5; exact h5), HB7.out.trans ((Below.refl _ w7).grown hg.out HB7.out.size (fun g e => (HO7.out.row.lt g e).1))⟩
      obtain ⟨a9, c9, rfl⟩ := own_sl ho.out
      clear ho hg ha hva hvn HO7
      go_wp2_with fail
      go_ret
      exact HE.out
    have hkk : (k : Int) < (n : Int) := by omega
    obtain ⟨x, hx⟩ : ∃ y, l[k]? = some y := ⟨l[k]'(by have := HX.out.2.1; omega), List.getElem?_eq_getElem _⟩
    have HXK : Hid (l[k]? = some x) := hx
    obtain ⟨lb, lo, hal, -, hce⟩ := (HL.out.bel HBD.out).cells k (by have := HX.out.2.1; omega)
    have HC : Hid (∀ q, q < 4 → wd.cell? ⟨lb, lo + k * 4 + q, none⟩ = (edL x)[q]?) := fun q hq => by
      have h1 := hce q hq
      obtain ⟨hj, hx2⟩ := List.getElem?_eq_some_iff.1 hx
      rw [hx2] at h1
      exact h1
    clear hce hx
    have HG : Hid (eLt x e → ∃ (k2 : Nat), k2 ≤ n ∧ Value.int .i64 (↑k + 1) = .int .i64 (k2 : Int) ∧ Below w.heap.size w wd ∧ SB EdK b3 (edL e) wd ∧ ∀ j y, j < k2 → l[j]? = some y → eLt y e) := fun hlx => ⟨k + 1, by omega, by simp, HBD.out, HSD.out, fun j y hj hy => by
      by_cases c : j = k
      · subst c
        rw [HXK.out] at hy
        cases hy
        exact hlx
      · exact HI.out.2.2.2 j y (by omega) hy⟩
    subst hal
    have HXN : Hid (¬ eLt x e → ∀ y, l[k]? = some y → ¬ eLt y e) := fun h y hy => by rw [HXK.out] at hy; cases hy; exact h
    have m0 : wd.cell? ⟨lb, lo + k * 4, none⟩ = some (.int .i64 x.f) := HC.out 0 (by decide)
    have m3 : wd.cell? ⟨lb, lo + k * 4 + 3, none⟩ = some (.int .i64 x.l) := HC.out 3 (by decide)
    have p0 : wd.cell? ⟨b3, 0, none⟩ = some (.int .i64 e.f) := HSD.out.cell 0
    have p3 : wd.cell? ⟨b3, 3, none⟩ = some (.int .i64 e.l) := HSD.out.cell 3
    have M : Hid (wd.cell? ⟨lb, lo + k * 4, none⟩ = some (.int .i64 x.f) ∧ wd.cell? ⟨lb, lo + k * 4 + 3, none⟩ = some (.int .i64 x.l) ∧ wd.cell? ⟨b3, 0, none⟩ = some (.int .i64 e.f) ∧ wd.cell? ⟨b3, 3, none⟩ = some (.int .i64 e.l)) := ⟨m0, m3, p0, p3⟩
    clear m0 m3 p0 p3
    go_upto_region 2 with fail
    refine wp_region_held_drew (S := fun W => W = wd) (by kernel_rfl) HWD.out (fun hHeld => ?_)
    rw [HWD.out] at hHeld ⊢
    refine wpAnyH_take (i := 0) (v := .int .i64 (k : Int)) rfl (by kernel_rfl) (by kernel_rfl) (by kernel_rfl) (fun _ _ _ h => h) (Or.inl ⟨by rfl, ?_⟩) (by assumption) ?_
    case refine_1 => intro W hSw; go_simp; try rfl
    try simp only [Act.put, List.getElem_toArray, List.getElem_cons_zero, List.getElem_cons_succ, List.setIfInBounds_toArray, List.set_cons_zero, List.set_cons_succ]
    refine wpAnyH_take (i := 1) (v := .slice (some ⟨lb, lo, none⟩) n c) rfl (by kernel_rfl) (by kernel_rfl) (by kernel_rfl) (fun _ _ _ h => h) (Or.inl ⟨by rfl, ?_⟩) (by assumption) ?_
    case refine_1 => intro W hSw; go_simp; try rfl
    try simp only [Act.put, List.getElem_toArray, List.getElem_cons_zero, List.getElem_cons_succ, List.setIfInBounds_toArray, List.set_cons_zero, List.set_cons_succ]
    refine wpAnyH_take (i := 2) (v := .int .i64 (n : Int)) rfl (by kernel_rfl) (by kernel_rfl) (by kernel_rfl) (fun _ _ _ h => h) (Or.inl ⟨by rfl, ?_⟩) (by assumption) ?_
    case refine_1 => intro W hSw; go_simp; try rfl
    try simp only [Act.put, List.getElem_toArray, List.getElem_cons_zero, List.getElem_cons_succ, List.setIfInBounds_toArray, List.set_cons_zero, List.set_cons_succ]
    refine wpAnyH_take (i := 3) (v := .bool true) rfl (by kernel_rfl) (by kernel_rfl) (by kernel_rfl) (fun _ _ _ h => h) (Or.inl ⟨by rfl, ?_⟩) (by assumption) ?_
    case refine_1 => intro W hSw; go_simp; try rfl
    try simp only [Act.put, List.getElem_toArray, List.getElem_cons_zero, List.getElem_cons_succ, List.setIfInBounds_toArray, List.set_cons_zero, List.set_cons_succ]
    refine wpAnyH_take (i := 4) (v := .bool true) rfl (by kernel_rfl) (by kernel_rfl) (by kernel_rfl) (fun _ _ _ h => h) (Or.inl ⟨by rfl, ?_⟩) (by assumption) ?_
    case refine_1 => intro W hSw; go_simp; try rfl
    try simp only [Act.put, List.getElem_toArray, List.getElem_cons_zero, List.getElem_cons_succ, List.setIfInBounds_toArray, List.set_cons_zero, List.set_cons_succ]
    refine wpAnyH_take (i := 5) (v := .slice (some ⟨lb, lo, none⟩) n c) rfl (by kernel_rfl) (by kernel_rfl) (by kernel_rfl) (fun _ _ _ h => h) (Or.inl ⟨by rfl, ?_⟩) (by assumption) ?_
    case refine_1 => intro W hSw; go_simp; try rfl
    try simp only [Act.put, List.getElem_toArray, List.getElem_cons_zero, List.getElem_cons_succ, List.setIfInBounds_toArray, List.set_cons_zero, List.set_cons_succ]
    refine wpAnyH_take (i := 6) (v := .int .i64 (k : Int)) rfl (by kernel_rfl) (by kernel_rfl) (by kernel_rfl) (fun _ _ _ h => h) (Or.inl ⟨by rfl, ?_⟩) (by assumption) ?_
    case refine_1 => intro W hSw; go_simp; try rfl
    try simp only [Act.put, List.getElem_toArray, List.getElem_cons_zero, List.getElem_cons_succ, List.setIfInBounds_toArray, List.set_cons_zero, List.set_cons_succ]
    refine wpAnyH_take (i := 7) (v := .pointer (some ⟨lb, lo + k * 4, none⟩)) rfl (by kernel_rfl) (by kernel_rfl) (by kernel_rfl) (fun _ _ _ h => h) (Or.inl ⟨by rfl, ?_⟩) (by assumption) ?_
    case refine_1 => intro W hSw; go_simp; try rfl
    try simp only [Act.put, List.getElem_toArray, List.getElem_cons_zero, List.getElem_cons_succ, List.setIfInBounds_toArray, List.set_cons_zero, List.set_cons_succ]
    refine wpAnyH_take (i := 8) (v := .pointer (some ⟨lb, lo + k * 4, none⟩)) rfl (by kernel_rfl) (by kernel_rfl) (by kernel_rfl) (fun _ _ _ h => h) (Or.inl ⟨by rfl, ?_⟩) (by assumption) ?_
    case refine_1 => intro W hSw; go_simp; try rfl
    try simp only [Act.put, List.getElem_toArray, List.getElem_cons_zero, List.getElem_cons_succ, List.setIfInBounds_toArray, List.set_cons_zero, List.set_cons_succ]
    refine wpAnyH_take (i := 9) (v := .int .i64 x.f) rfl (by kernel_rfl) (by kernel_rfl) (by kernel_rfl) (fun _ _ _ h => h) (Or.inl ⟨by rfl, ?_⟩) (by assumption) ?_
    case refine_1 => intro W hSw; rw [hSw]; have k1 := M.out.1; go_simp; try rfl
    try simp only [Act.put, List.getElem_toArray, List.getElem_cons_zero, List.getElem_cons_succ, List.setIfInBounds_toArray, List.set_cons_zero, List.set_cons_succ]
    refine wpAnyH_take (i := 10) (v := .pointer (some ⟨b3, 0, none⟩)) rfl (by kernel_rfl) (by kernel_rfl) (by kernel_rfl) (fun _ _ _ h => h) (Or.inl ⟨by rfl, ?_⟩) (by assumption) ?_
    case refine_1 => intro W hSw; go_simp; try rfl
    try simp only [Act.put, List.getElem_toArray, List.getElem_cons_zero, List.getElem_cons_succ, List.setIfInBounds_toArray, List.set_cons_zero, List.set_cons_succ]
    refine wpAnyH_take (i := 11) (v := .int .i64 e.f) rfl (by kernel_rfl) (by kernel_rfl) (by kernel_rfl) (fun _ _ _ h => h) (Or.inl ⟨by rfl, ?_⟩) (by assumption) ?_
    case refine_1 => intro W hSw; rw [hSw]; have k1 := M.out.2.2.1; go_simp; try rfl
    try simp only [Act.put, List.getElem_toArray, List.getElem_cons_zero, List.getElem_cons_succ, List.setIfInBounds_toArray, List.set_cons_zero, List.set_cons_succ]
    by_cases hff : x.f < e.f
    case pos =>
      have hdf : decide (x.f < e.f) = true := decide_eq_true hff
      have HLX : Hid (eLt x e) := .inl hff
      refine wpAnyH_take (i := 12) (v := .bool true) rfl (by kernel_rfl) (by kernel_rfl) (by kernel_rfl) (fun _ _ _ h => h) (Or.inl ⟨by rfl, ?_⟩) (by assumption) ?_
      case refine_1 => intro W hSw; go_simp; try rfl
      try simp only [Act.put, List.getElem_toArray, List.getElem_cons_zero, List.getElem_cons_succ, List.setIfInBounds_toArray, List.set_cons_zero, List.set_cons_succ]
      refine wpAnyH_take (i := 13) (v := .bool true) rfl (by kernel_rfl) (by kernel_rfl) (by kernel_rfl) (fun _ _ _ h => h) (Or.inl ⟨by rfl, ?_⟩) (by assumption) ?_
      case refine_1 => intro W hSw; go_simp; try rfl
      try simp only [Act.put, List.getElem_toArray, List.getElem_cons_zero, List.getElem_cons_succ, List.setIfInBounds_toArray, List.set_cons_zero, List.set_cons_succ]
      refine wpAnyH_take (i := 14) (v := undef) rfl (by kernel_rfl) (by kernel_rfl) (by kernel_rfl) (fun _ _ _ h => h) (Or.inr ⟨by rfl, rfl⟩) (by assumption) ?_
      try simp only [Act.put, List.getElem_toArray, List.getElem_cons_zero, List.getElem_cons_succ, List.setIfInBounds_toArray, List.set_cons_zero, List.set_cons_succ]
      refine wpAnyH_take (i := 15) (v := undef) rfl (by kernel_rfl) (by kernel_rfl) (by kernel_rfl) (fun _ _ _ h => h) (Or.inr ⟨by rfl, rfl⟩) (by assumption) ?_
      try simp only [Act.put, List.getElem_toArray, List.getElem_cons_zero, List.getElem_cons_succ, List.setIfInBounds_toArray, List.set_cons_zero, List.set_cons_succ]
      refine wpAnyH_take (i := 16) (v := undef) rfl (by kernel_rfl) (by kernel_rfl) (by kernel_rfl) (fun _ _ _ h => h) (Or.inr ⟨by rfl, rfl⟩) (by assumption) ?_
      try simp only [Act.put, List.getElem_toArray, List.getElem_cons_zero, List.getElem_cons_succ, List.setIfInBounds_toArray, List.set_cons_zero, List.set_cons_succ]
      refine wpAnyH_take (i := 17) (v := undef) rfl (by kernel_rfl) (by kernel_rfl) (by kernel_rfl) (fun _ _ _ h => h) (Or.inr ⟨by rfl, rfl⟩) (by assumption) ?_
      try simp only [Act.put, List.getElem_toArray, List.getElem_cons_zero, List.getElem_cons_succ, List.setIfInBounds_toArray, List.set_cons_zero, List.set_cons_succ]
      refine wpAnyH_take (i := 18) (v := undef) rfl (by kernel_rfl) (by kernel_rfl) (by kernel_rfl) (fun _ _ _ h => h) (Or.inr ⟨by rfl, rfl⟩) (by assumption) ?_
      try simp only [Act.put, List.getElem_toArray, List.getElem_cons_zero, List.getElem_cons_succ, List.setIfInBounds_toArray, List.set_cons_zero, List.set_cons_succ]
      refine wpAnyH_take (i := 19) (v := undef) rfl (by kernel_rfl) (by kernel_rfl) (by kernel_rfl) (fun _ _ _ h => h) (Or.inr ⟨by rfl, rfl⟩) (by assumption) ?_
      try simp only [Act.put, List.getElem_toArray, List.getElem_cons_zero, List.getElem_cons_succ, List.setIfInBounds_toArray, List.set_cons_zero, List.set_cons_succ]
      refine wpAnyH_take (i := 20) (v := undef) rfl (by kernel_rfl) (by kernel_rfl) (by kernel_rfl) (fun _ _ _ h => h) (Or.inr ⟨by rfl, rfl⟩) (by assumption) ?_
      try simp only [Act.put, List.getElem_toArray, List.getElem_cons_zero, List.getElem_cons_succ, List.setIfInBounds_toArray, List.set_cons_zero, List.set_cons_succ]
      refine wpAnyH_take (i := 21) (v := undef) rfl (by kernel_rfl) (by kernel_rfl) (by kernel_rfl) (fun _ _ _ h => h) (Or.inr ⟨by rfl, rfl⟩) (by assumption) ?_
      try simp only [Act.put, List.getElem_toArray, List.getElem_cons_zero, List.getElem_cons_succ, List.setIfInBounds_toArray, List.set_cons_zero, List.set_cons_succ]
      refine wpAnyH_take (i := 22) (v := undef) rfl (by kernel_rfl) (by kernel_rfl) (by kernel_rfl) (fun _ _ _ h => h) (Or.inr ⟨by rfl, rfl⟩) (by assumption) ?_
      try simp only [Act.put, List.getElem_toArray, List.getElem_cons_zero, List.getElem_cons_succ, List.setIfInBounds_toArray, List.set_cons_zero, List.set_cons_succ]
      refine wpAnyH_take (i := 23) (v := undef) rfl (by kernel_rfl) (by kernel_rfl) (by kernel_rfl) (fun _ _ _ h => h) (Or.inr ⟨by rfl, rfl⟩) (by assumption) ?_
      try simp only [Act.put, List.getElem_toArray, List.getElem_cons_zero, List.getElem_cons_succ, List.setIfInBounds_toArray, List.set_cons_zero, List.set_cons_succ]
      refine wpAnyH_take (i := 24) (v := undef) rfl (by kernel_rfl) (by kernel_rfl) (by kernel_rfl) (fun _ _ _ h => h) (Or.inr ⟨by rfl, rfl⟩) (by assumption) ?_
      try simp only [Act.put, List.getElem_toArray, List.getElem_cons_zero, List.getElem_cons_succ, List.setIfInBounds_toArray, List.set_cons_zero, List.set_cons_succ]
      refine wpAnyH_take (i := 25) (v := undef) rfl (by kernel_rfl) (by kernel_rfl) (by kernel_rfl) (fun _ _ _ h => h) (Or.inr ⟨by rfl, rfl⟩) (by assumption) ?_
      try simp only [Act.put, List.getElem_toArray, List.getElem_cons_zero, List.getElem_cons_succ, List.setIfInBounds_toArray, List.set_cons_zero, List.set_cons_succ]
      refine wpAnyH_take (i := 26) (v := undef) rfl (by kernel_rfl) (by kernel_rfl) (by kernel_rfl) (fun _ _ _ h => h) (Or.inr ⟨by rfl, rfl⟩) (by assumption) ?_
      try simp only [Act.put, List.getElem_toArray, List.getElem_cons_zero, List.getElem_cons_succ, List.setIfInBounds_toArray, List.set_cons_zero, List.set_cons_succ]
      refine wpAnyH_take (i := 27) (v := undef) rfl (by kernel_rfl) (by kernel_rfl) (by kernel_rfl) (fun _ _ _ h => h) (Or.inr ⟨by rfl, rfl⟩) (by assumption) ?_
      try simp only [Act.put, List.getElem_toArray, List.getElem_cons_zero, List.getElem_cons_succ, List.setIfInBounds_toArray, List.set_cons_zero, List.set_cons_succ]
      refine wpAnyH_take (i := 28) (v := undef) rfl (by kernel_rfl) (by kernel_rfl) (by kernel_rfl) (fun _ _ _ h => h) (Or.inr ⟨by rfl, rfl⟩) (by assumption) ?_
      try simp only [Act.put, List.getElem_toArray, List.getElem_cons_zero, List.getElem_cons_succ, List.setIfInBounds_toArray, List.set_cons_zero, List.set_cons_succ]
      refine wpAnyH_take (i := 29) (v := undef) rfl (by kernel_rfl) (by kernel_rfl) (by kernel_rfl) (fun _ _ _ h => h) (Or.inr ⟨by rfl, rfl⟩) (by assumption) ?_
      try simp only [Act.put, List.getElem_toArray, List.getElem_cons_zero, List.getElem_cons_succ, List.setIfInBounds_toArray, List.set_cons_zero, List.set_cons_succ]
      refine wpAnyH_take (i := 30) (v := undef) rfl (by kernel_rfl) (by kernel_rfl) (by kernel_rfl) (fun _ _ _ h => h) (Or.inr ⟨by rfl, rfl⟩) (by assumption) ?_
      try simp only [Act.put, List.getElem_toArray, List.getElem_cons_zero, List.getElem_cons_succ, List.setIfInBounds_toArray, List.set_cons_zero, List.set_cons_succ]
      refine wpAnyH_take (i := 31) (v := undef) rfl (by kernel_rfl) (by kernel_rfl) (by kernel_rfl) (fun _ _ _ h => h) (Or.inr ⟨by rfl, rfl⟩) (by assumption) ?_
      try simp only [Act.put, List.getElem_toArray, List.getElem_cons_zero, List.getElem_cons_succ, List.setIfInBounds_toArray, List.set_cons_zero, List.set_cons_succ]
      refine wpAnyH_take (i := 32) (v := .bool true) rfl (by kernel_rfl) (by kernel_rfl) (by kernel_rfl) (fun _ _ _ h => h) (Or.inl ⟨by rfl, ?_⟩) (by assumption) ?_
      case refine_1 => intro W hSw; go_simp; try rfl
      try simp only [Act.put, List.getElem_toArray, List.getElem_cons_zero, List.getElem_cons_succ, List.setIfInBounds_toArray, List.set_cons_zero, List.set_cons_succ]
      refine wpAnyH_take (i := 33) (v := .bool true) rfl (by kernel_rfl) (by kernel_rfl) (by kernel_rfl) (fun _ _ _ h => h) (Or.inl ⟨by rfl, ?_⟩) (by assumption) ?_
      case refine_1 => intro W hSw; go_simp; try rfl
      try simp only [Act.put, List.getElem_toArray, List.getElem_cons_zero, List.getElem_cons_succ, List.setIfInBounds_toArray, List.set_cons_zero, List.set_cons_succ]
      refine wpAnyH_done (by kernel_rfl) ?_ _
      clear hHeld
      go_wp2_with fail
      refine ⟨HG.out HLX.out, ?_⟩
      simp [intOf]
      omega
    have hdf : decide (x.f < e.f) = false := decide_eq_false hff
    refine wpAnyH_take (i := 12) (v := .bool false) rfl (by kernel_rfl) (by kernel_rfl) (by kernel_rfl) (fun _ _ _ h => h) (Or.inl ⟨by rfl, ?_⟩) (by assumption) ?_
    case refine_1 => intro W hSw; go_simp; try rfl
    try simp only [Act.put, List.getElem_toArray, List.getElem_cons_zero, List.getElem_cons_succ, List.setIfInBounds_toArray, List.set_cons_zero, List.set_cons_succ]
    refine wpAnyH_take (i := 13) (v := .bool false) rfl (by kernel_rfl) (by kernel_rfl) (by kernel_rfl) (fun _ _ _ h => h) (Or.inl ⟨by rfl, ?_⟩) (by assumption) ?_
    case refine_1 => intro W hSw; go_simp; try rfl
    try simp only [Act.put, List.getElem_toArray, List.getElem_cons_zero, List.getElem_cons_succ, List.setIfInBounds_toArray, List.set_cons_zero, List.set_cons_succ]
    refine wpAnyH_take (i := 14) (v := .slice (some ⟨lb, lo, none⟩) n c) rfl (by kernel_rfl) (by kernel_rfl) (by kernel_rfl) (fun _ _ _ h => h) (Or.inl ⟨by rfl, ?_⟩) (by assumption) ?_
    case refine_1 => intro W hSw; go_simp; try rfl
    try simp only [Act.put, List.getElem_toArray, List.getElem_cons_zero, List.getElem_cons_succ, List.setIfInBounds_toArray, List.set_cons_zero, List.set_cons_succ]
    refine wpAnyH_take (i := 15) (v := .int .i64 (k : Int)) rfl (by kernel_rfl) (by kernel_rfl) (by kernel_rfl) (fun _ _ _ h => h) (Or.inl ⟨by rfl, ?_⟩) (by assumption) ?_
    case refine_1 => intro W hSw; go_simp; try rfl
    try simp only [Act.put, List.getElem_toArray, List.getElem_cons_zero, List.getElem_cons_succ, List.setIfInBounds_toArray, List.set_cons_zero, List.set_cons_succ]
    refine wpAnyH_take (i := 16) (v := .pointer (some ⟨lb, lo + k * 4, none⟩)) rfl (by kernel_rfl) (by kernel_rfl) (by kernel_rfl) (fun _ _ _ h => h) (Or.inl ⟨by rfl, ?_⟩) (by assumption) ?_
    case refine_1 => intro W hSw; go_simp; try rfl
    try simp only [Act.put, List.getElem_toArray, List.getElem_cons_zero, List.getElem_cons_succ, List.setIfInBounds_toArray, List.set_cons_zero, List.set_cons_succ]
    refine wpAnyH_take (i := 17) (v := .pointer (some ⟨lb, lo + k * 4, none⟩)) rfl (by kernel_rfl) (by kernel_rfl) (by kernel_rfl) (fun _ _ _ h => h) (Or.inl ⟨by rfl, ?_⟩) (by assumption) ?_
    case refine_1 => intro W hSw; go_simp; try rfl
    try simp only [Act.put, List.getElem_toArray, List.getElem_cons_zero, List.getElem_cons_succ, List.setIfInBounds_toArray, List.set_cons_zero, List.set_cons_succ]
    refine wpAnyH_take (i := 18) (v := .int .i64 x.f) rfl (by kernel_rfl) (by kernel_rfl) (by kernel_rfl) (fun _ _ _ h => h) (Or.inl ⟨by rfl, ?_⟩) (by assumption) ?_
    case refine_1 => intro W hSw; rw [hSw]; have k1 := M.out.1; go_simp; try rfl
    try simp only [Act.put, List.getElem_toArray, List.getElem_cons_zero, List.getElem_cons_succ, List.setIfInBounds_toArray, List.set_cons_zero, List.set_cons_succ]
    refine wpAnyH_take (i := 19) (v := .pointer (some ⟨b3, 0, none⟩)) rfl (by kernel_rfl) (by kernel_rfl) (by kernel_rfl) (fun _ _ _ h => h) (Or.inl ⟨by rfl, ?_⟩) (by assumption) ?_
    case refine_1 => intro W hSw; go_simp; try rfl
    try simp only [Act.put, List.getElem_toArray, List.getElem_cons_zero, List.getElem_cons_succ, List.setIfInBounds_toArray, List.set_cons_zero, List.set_cons_succ]
    refine wpAnyH_take (i := 20) (v := .int .i64 e.f) rfl (by kernel_rfl) (by kernel_rfl) (by kernel_rfl) (fun _ _ _ h => h) (Or.inl ⟨by rfl, ?_⟩) (by assumption) ?_
    case refine_1 => intro W hSw; rw [hSw]; have k1 := M.out.2.2.1; go_simp; try rfl
    try simp only [Act.put, List.getElem_toArray, List.getElem_cons_zero, List.getElem_cons_succ, List.setIfInBounds_toArray, List.set_cons_zero, List.set_cons_succ]
    by_cases hfe : x.f = e.f
    case neg =>
      have hde : (x.f == e.f) = false := beq_false_of_ne hfe
      have HST : Hid (∀ x, l[k]? = some x → ¬ eLt x e) := HXN.out (fun c => by rcases c with c | c; exact hff c; exact hfe c.1)
      refine wpAnyH_take (i := 21) (v := .bool false) rfl (by kernel_rfl) (by kernel_rfl) (by kernel_rfl) (fun _ _ _ h => h) (Or.inl ⟨by rfl, ?_⟩) (by assumption) ?_
      case refine_1 => intro W hSw; go_simp; try rfl
      try simp only [Act.put, List.getElem_toArray, List.getElem_cons_zero, List.getElem_cons_succ, List.setIfInBounds_toArray, List.set_cons_zero, List.set_cons_succ]
      refine wpAnyH_take (i := 22) (v := .bool false) rfl (by kernel_rfl) (by kernel_rfl) (by kernel_rfl) (fun _ _ _ h => h) (Or.inl ⟨by rfl, ?_⟩) (by assumption) ?_
      case refine_1 => intro W hSw; go_simp; try rfl
      try simp only [Act.put, List.getElem_toArray, List.getElem_cons_zero, List.getElem_cons_succ, List.setIfInBounds_toArray, List.set_cons_zero, List.set_cons_succ]
      refine wpAnyH_take (i := 23) (v := undef) rfl (by kernel_rfl) (by kernel_rfl) (by kernel_rfl) (fun _ _ _ h => h) (Or.inr ⟨by rfl, rfl⟩) (by assumption) ?_
      try simp only [Act.put, List.getElem_toArray, List.getElem_cons_zero, List.getElem_cons_succ, List.setIfInBounds_toArray, List.set_cons_zero, List.set_cons_succ]
      refine wpAnyH_take (i := 24) (v := undef) rfl (by kernel_rfl) (by kernel_rfl) (by kernel_rfl) (fun _ _ _ h => h) (Or.inr ⟨by rfl, rfl⟩) (by assumption) ?_
      try simp only [Act.put, List.getElem_toArray, List.getElem_cons_zero, List.getElem_cons_succ, List.setIfInBounds_toArray, List.set_cons_zero, List.set_cons_succ]
      refine wpAnyH_take (i := 25) (v := undef) rfl (by kernel_rfl) (by kernel_rfl) (by kernel_rfl) (fun _ _ _ h => h) (Or.inr ⟨by rfl, rfl⟩) (by assumption) ?_
      try simp only [Act.put, List.getElem_toArray, List.getElem_cons_zero, List.getElem_cons_succ, List.setIfInBounds_toArray, List.set_cons_zero, List.set_cons_succ]
      refine wpAnyH_take (i := 26) (v := undef) rfl (by kernel_rfl) (by kernel_rfl) (by kernel_rfl) (fun _ _ _ h => h) (Or.inr ⟨by rfl, rfl⟩) (by assumption) ?_
      try simp only [Act.put, List.getElem_toArray, List.getElem_cons_zero, List.getElem_cons_succ, List.setIfInBounds_toArray, List.set_cons_zero, List.set_cons_succ]
      refine wpAnyH_take (i := 27) (v := undef) rfl (by kernel_rfl) (by kernel_rfl) (by kernel_rfl) (fun _ _ _ h => h) (Or.inr ⟨by rfl, rfl⟩) (by assumption) ?_
      try simp only [Act.put, List.getElem_toArray, List.getElem_cons_zero, List.getElem_cons_succ, List.setIfInBounds_toArray, List.set_cons_zero, List.set_cons_succ]
      refine wpAnyH_take (i := 28) (v := undef) rfl (by kernel_rfl) (by kernel_rfl) (by kernel_rfl) (fun _ _ _ h => h) (Or.inr ⟨by rfl, rfl⟩) (by assumption) ?_
      try simp only [Act.put, List.getElem_toArray, List.getElem_cons_zero, List.getElem_cons_succ, List.setIfInBounds_toArray, List.set_cons_zero, List.set_cons_succ]
      refine wpAnyH_take (i := 29) (v := undef) rfl (by kernel_rfl) (by kernel_rfl) (by kernel_rfl) (fun _ _ _ h => h) (Or.inr ⟨by rfl, rfl⟩) (by assumption) ?_
      try simp only [Act.put, List.getElem_toArray, List.getElem_cons_zero, List.getElem_cons_succ, List.setIfInBounds_toArray, List.set_cons_zero, List.set_cons_succ]
      refine wpAnyH_take (i := 30) (v := undef) rfl (by kernel_rfl) (by kernel_rfl) (by kernel_rfl) (fun _ _ _ h => h) (Or.inr ⟨by rfl, rfl⟩) (by assumption) ?_
      try simp only [Act.put, List.getElem_toArray, List.getElem_cons_zero, List.getElem_cons_succ, List.setIfInBounds_toArray, List.set_cons_zero, List.set_cons_succ]
      refine wpAnyH_take (i := 31) (v := .bool false) rfl (by kernel_rfl) (by kernel_rfl) (by kernel_rfl) (fun _ _ _ h => h) (Or.inl ⟨by rfl, ?_⟩) (by assumption) ?_
      case refine_1 => intro W hSw; go_simp; try rfl
      try simp only [Act.put, List.getElem_toArray, List.getElem_cons_zero, List.getElem_cons_succ, List.setIfInBounds_toArray, List.set_cons_zero, List.set_cons_succ]
      refine wpAnyH_take (i := 32) (v := .bool false) rfl (by kernel_rfl) (by kernel_rfl) (by kernel_rfl) (fun _ _ _ h => h) (Or.inl ⟨by rfl, ?_⟩) (by assumption) ?_
      case refine_1 => intro W hSw; go_simp; try rfl
      try simp only [Act.put, List.getElem_toArray, List.getElem_cons_zero, List.getElem_cons_succ, List.setIfInBounds_toArray, List.set_cons_zero, List.set_cons_succ]
      refine wpAnyH_take (i := 33) (v := .bool false) rfl (by kernel_rfl) (by kernel_rfl) (by kernel_rfl) (fun _ _ _ h => h) (Or.inl ⟨by rfl, ?_⟩) (by assumption) ?_
      case refine_1 => intro W hSw; go_simp; try rfl
      try simp only [Act.put, List.getElem_toArray, List.getElem_cons_zero, List.getElem_cons_succ, List.setIfInBounds_toArray, List.set_cons_zero, List.set_cons_succ]
      refine wpAnyH_done (by kernel_rfl) ?_ _
      clear hHeld
      go_wp2_with (first | (refine list_bnew EE rfl _ rfl rfl (by simp [execOp, go_sem]; rfl) ?_))
      intro b4 w4 hb hs hbl
      have HB4 : Hid (Below wd.heap.size wd w4 ∧ wd.heap.size ≤ b4) := ⟨hbl.out, by rw [hb.out]; exact Nat.le_refl _⟩
      have HO4 : Hid (OwnL EE w.heap.size w4 (.slice (some ⟨b4, 0, none⟩) 0 0) []) := hs.out.mono HBD.out.size
      clear hb hs hbl
      have HL4 : Hid (Lst EE w4 (some ⟨lb, lo, none⟩ : Option Addr) l) := HL.out.bel (HBD.out.trans (HB4.out.1.mono HBD.out.size))
      have HA : Hid (((some ⟨lb, lo, none⟩ : Option Addr) = none ∨ ∃ b f, (some ⟨lb, lo, none⟩ : Option Addr) = some ⟨b, f, none⟩) ∧ ((some ⟨lb, lo, none⟩ : Option Addr) = none → n = 0 ∧ c = 0)) := ⟨HX.out.2.2.2.2.1, HX.out.2.2.2.1⟩
      have hlk : Hid ((l.take k).length = k) := by show _ = _; rw [List.length_take]; have := HX.out.2.1; have := HI.out.2.2.1; omega
      go_wp2_with (first | (refine list_sliceh EE rfl _ _ 22 rfl rfl (a := (some ⟨lb, lo, none⟩ : Option Addr)) (n := n) (c := c) (h := k) rfl rfl HA.out.1 (by have := HI.out.2.2.1; have := HX.out.2.2.1; omega) ?_) | (at_builtin; refine list_appL EE rfl _ _ 22 rfl rfl w.heap.size (.slice (some ⟨b4, 0, none⟩) 0 0) [] (l.take k) (some ⟨lb, lo, none⟩ : Option Addr) k c w4 (by have := HX.out; have := HI.out.2.2.1; simp; omega) rfl HO4.out rfl (HL4.out.take k) (fun h => by have h1 := HA.out.2 h; have := HI.out.2.2.1; omega) hlk.out (Nat.le_trans HBD.out.size HB4.out.1.size) ?_))
      intro v5 w5 ho hg ha
      obtain ⟨a5, c5, rfl⟩ := own_sl ho.out
      have HO5 : Hid (OwnL EE w.heap.size w5 (.slice a5 k c5) (l.take k)) := by
        have h5 := ho.out
        try simp only [List.nil_append] at h5
        rw [hlk.out] at h5
        exact h5
      have HB5 : Hid (Below wd.heap.size wd w5) := HB4.out.1.trans ((Below.refl _ w4).grown hg.out HB4.out.1.size (fun g e => by cases e; exact HB4.out.2))
      try simp only [List.nil_append]
      rw [hlk.out]
      clear ho hg ha HO4 HL4 HB4
      have HS5 : Hid (SB EdK b3 (edL e) w5) := HSD.out.blk (HB5.out.block b3 HSD.out.lt)
      go_wp2_with (first | (refine list_sload EdK rfl _ rfl (b := b3) (cs := edL e) rfl HS5.out rfl ?_) | (refine list_ebuild rfl _ rfl (m := e) rfl ?_))
      intro b6 w6 hb hs hbl
      have HB6 : Hid (Below w5.heap.size w5 w6) := hbl.out
      have HL6 : Hid (Lst EE w6 (some ⟨b6, 0, none⟩) [e]) := hs.out
      clear hb hs hbl
      go_wp2_with (at_builtin; refine list_appL EE rfl _ _ 22 rfl rfl w.heap.size (.slice a5 k c5) (l.take k) [e] (some ⟨b6, 0, none⟩) 1 1 w6 (by have := HX.out; have := HI.out.2.2.1; have := hlk.out; omega) rfl (HO5.out.bel HB6.out) rfl HL6.out (fun h => by cases h) rfl (Nat.le_trans (Nat.le_trans HBD.out.size HB5.out.size) HB6.out.size) ?_)
      intro v7 w7 ho hg ha
      obtain ⟨a7, c7, rfl⟩ := own_sl ho.out
      have hlk1 : Hid ((l.take k ++ [e]).length = k + 1) := by show _ = _; rw [List.length_append, hlk.out]; rfl
      have HO7 : Hid (OwnL EE w.heap.size w7 (.slice a7 (k + 1) c7) (l.take k ++ [e])) := by have h5 := ho.out; rw [hlk1.out] at h5; exact h5
      have HB7 : Hid (Below w.heap.size w w7) := (HBD.out.trans ((HB5.out.trans (HB6.out.mono HB5.out.size)).mono HBD.out.size)).trans ((Below.refl _ w6).grown hg.out (Nat.le_trans (Nat.le_trans HBD.out.size HB5.out.size) HB6.out.size) (fun g e => ((HO5.out.bel HB6.out).row.lt g e).1))
      rw [hlk1.out]
      clear ho hg ha HO5 HL6 HB6
      go_wp2_with (first | (refine list_slicel EE rfl _ _ 22 rfl rfl (a := (some ⟨lb, lo, none⟩ : Option Addr)) (n := n) (c := c) (l := k) rfl rfl l (HL.out.bel HB7.out) HX.out.2.1 HX.out.2.2.1 HA.out.2 HA.out.1 HI.out.2.2.1 ?_))
      intro va hva hvn
      go_wp2_with (at_builtin; refine list_appL EE rfl _ _ 22 rfl rfl w.heap.size (.slice a7 (k + 1) c7) (l.take k ++ [e]) (l.drop k) va (n - k) (c - k) w7 (by have := HX.out; have := HI.out.2.2.1; have := hlk1.out; omega) rfl HO7.out rfl hva.out hvn.out (by rw [List.length_drop]; have := HX.out.2.1; omega) HB7.out.size ?_)
      intro v9 w9 ho hg ha
      have HE : Hid (PlPost w l e (.returned v9) w9) := ⟨k, v9, rfl, by have := HX.out.2.1; have := HI.out.2.2.1; omega, HI.out.2.2.2, HST.out, by have h5 := ho.out; first | exact h5 | (rw [List.append_assoc] at h5; exact h5), HB7.out.trans ((Below.refl _ w7).grown hg.out HB7.out.size (fun g e => (HO7.out.row.lt g e).1))⟩
      obtain ⟨a9, c9, rfl⟩ := own_sl ho.out
      clear ho hg ha hva hvn HO7
      go_wp2_with fail
      go_ret
      exact HE.out
    have hde : (x.f == e.f) = true := by simp [hfe]
    refine wpAnyH_take (i := 21) (v := .bool true) rfl (by kernel_rfl) (by kernel_rfl) (by kernel_rfl) (fun _ _ _ h => h) (Or.inl ⟨by rfl, ?_⟩) (by assumption) ?_
    case refine_1 => intro W hSw; go_simp; try rfl
    try simp only [Act.put, List.getElem_toArray, List.getElem_cons_zero, List.getElem_cons_succ, List.setIfInBounds_toArray, List.set_cons_zero, List.set_cons_succ]
    refine wpAnyH_take (i := 22) (v := .bool true) rfl (by kernel_rfl) (by kernel_rfl) (by kernel_rfl) (fun _ _ _ h => h) (Or.inl ⟨by rfl, ?_⟩) (by assumption) ?_
    case refine_1 => intro W hSw; go_simp; try rfl
    try simp only [Act.put, List.getElem_toArray, List.getElem_cons_zero, List.getElem_cons_succ, List.setIfInBounds_toArray, List.set_cons_zero, List.set_cons_succ]
    refine wpAnyH_take (i := 23) (v := .slice (some ⟨lb, lo, none⟩) n c) rfl (by kernel_rfl) (by kernel_rfl) (by kernel_rfl) (fun _ _ _ h => h) (Or.inl ⟨by rfl, ?_⟩) (by assumption) ?_
    case refine_1 => intro W hSw; go_simp; try rfl
    try simp only [Act.put, List.getElem_toArray, List.getElem_cons_zero, List.getElem_cons_succ, List.setIfInBounds_toArray, List.set_cons_zero, List.set_cons_succ]
    refine wpAnyH_take (i := 24) (v := .int .i64 (k : Int)) rfl (by kernel_rfl) (by kernel_rfl) (by kernel_rfl) (fun _ _ _ h => h) (Or.inl ⟨by rfl, ?_⟩) (by assumption) ?_
    case refine_1 => intro W hSw; go_simp; try rfl
    try simp only [Act.put, List.getElem_toArray, List.getElem_cons_zero, List.getElem_cons_succ, List.setIfInBounds_toArray, List.set_cons_zero, List.set_cons_succ]
    refine wpAnyH_take (i := 25) (v := .pointer (some ⟨lb, lo + k * 4, none⟩)) rfl (by kernel_rfl) (by kernel_rfl) (by kernel_rfl) (fun _ _ _ h => h) (Or.inl ⟨by rfl, ?_⟩) (by assumption) ?_
    case refine_1 => intro W hSw; go_simp; try rfl
    try simp only [Act.put, List.getElem_toArray, List.getElem_cons_zero, List.getElem_cons_succ, List.setIfInBounds_toArray, List.set_cons_zero, List.set_cons_succ]
    refine wpAnyH_take (i := 26) (v := .pointer (some ⟨lb, lo + k * 4 + 3, none⟩)) rfl (by kernel_rfl) (by kernel_rfl) (by kernel_rfl) (fun _ _ _ h => h) (Or.inl ⟨by rfl, ?_⟩) (by assumption) ?_
    case refine_1 => intro W hSw; go_simp; try rfl
    try simp only [Act.put, List.getElem_toArray, List.getElem_cons_zero, List.getElem_cons_succ, List.setIfInBounds_toArray, List.set_cons_zero, List.set_cons_succ]
    refine wpAnyH_take (i := 27) (v := .int .i64 x.l) rfl (by kernel_rfl) (by kernel_rfl) (by kernel_rfl) (fun _ _ _ h => h) (Or.inl ⟨by rfl, ?_⟩) (by assumption) ?_
    case refine_1 => intro W hSw; rw [hSw]; have k1 := M.out.2.1; go_simp; try rfl
    try simp only [Act.put, List.getElem_toArray, List.getElem_cons_zero, List.getElem_cons_succ, List.setIfInBounds_toArray, List.set_cons_zero, List.set_cons_succ]
    refine wpAnyH_take (i := 28) (v := .pointer (some ⟨b3, 3, none⟩)) rfl (by kernel_rfl) (by kernel_rfl) (by kernel_rfl) (fun _ _ _ h => h) (Or.inl ⟨by rfl, ?_⟩) (by assumption) ?_
    case refine_1 => intro W hSw; go_simp; try rfl
    try simp only [Act.put, List.getElem_toArray, List.getElem_cons_zero, List.getElem_cons_succ, List.setIfInBounds_toArray, List.set_cons_zero, List.set_cons_succ]
    refine wpAnyH_take (i := 29) (v := .int .i64 e.l) rfl (by kernel_rfl) (by kernel_rfl) (by kernel_rfl) (fun _ _ _ h => h) (Or.inl ⟨by rfl, ?_⟩) (by assumption) ?_
    case refine_1 => intro W hSw; rw [hSw]; have k1 := M.out.2.2.2; go_simp; try rfl
    try simp only [Act.put, List.getElem_toArray, List.getElem_cons_zero, List.getElem_cons_succ, List.setIfInBounds_toArray, List.set_cons_zero, List.set_cons_succ]
    by_cases hll : x.l < e.l
    case pos =>
      have hdl : decide (x.l < e.l) = true := decide_eq_true hll
      have HLX : Hid (eLt x e) := .inr ⟨hfe, hll⟩
      refine wpAnyH_take (i := 30) (v := .bool true) rfl (by kernel_rfl) (by kernel_rfl) (by kernel_rfl) (fun _ _ _ h => h) (Or.inl ⟨by rfl, ?_⟩) (by assumption) ?_
      case refine_1 => intro W hSw; go_simp; try rfl
      try simp only [Act.put, List.getElem_toArray, List.getElem_cons_zero, List.getElem_cons_succ, List.setIfInBounds_toArray, List.set_cons_zero, List.set_cons_succ]
      refine wpAnyH_take (i := 31) (v := .bool true) rfl (by kernel_rfl) (by kernel_rfl) (by kernel_rfl) (fun _ _ _ h => h) (Or.inl ⟨by rfl, ?_⟩) (by assumption) ?_
      case refine_1 => intro W hSw; go_simp; try rfl
      try simp only [Act.put, List.getElem_toArray, List.getElem_cons_zero, List.getElem_cons_succ, List.setIfInBounds_toArray, List.set_cons_zero, List.set_cons_succ]
      refine wpAnyH_take (i := 32) (v := .bool true) rfl (by kernel_rfl) (by kernel_rfl) (by kernel_rfl) (fun _ _ _ h => h) (Or.inl ⟨by rfl, ?_⟩) (by assumption) ?_
      case refine_1 => intro W hSw; go_simp; try rfl
      try simp only [Act.put, List.getElem_toArray, List.getElem_cons_zero, List.getElem_cons_succ, List.setIfInBounds_toArray, List.set_cons_zero, List.set_cons_succ]
      refine wpAnyH_take (i := 33) (v := .bool true) rfl (by kernel_rfl) (by kernel_rfl) (by kernel_rfl) (fun _ _ _ h => h) (Or.inl ⟨by rfl, ?_⟩) (by assumption) ?_
      case refine_1 => intro W hSw; go_simp; try rfl
      try simp only [Act.put, List.getElem_toArray, List.getElem_cons_zero, List.getElem_cons_succ, List.setIfInBounds_toArray, List.set_cons_zero, List.set_cons_succ]
      refine wpAnyH_done (by kernel_rfl) ?_ _
      clear hHeld
      go_wp2_with fail
      refine ⟨HG.out HLX.out, ?_⟩
      simp [intOf]
      omega
    have hdl : decide (x.l < e.l) = false := decide_eq_false hll
    have HST : Hid (∀ x, l[k]? = some x → ¬ eLt x e) := HXN.out (fun c => by rcases c with c | c; exact hff c; exact hll c.2)
    refine wpAnyH_take (i := 30) (v := .bool false) rfl (by kernel_rfl) (by kernel_rfl) (by kernel_rfl) (fun _ _ _ h => h) (Or.inl ⟨by rfl, ?_⟩) (by assumption) ?_
    case refine_1 => intro W hSw; go_simp; try rfl
    try simp only [Act.put, List.getElem_toArray, List.getElem_cons_zero, List.getElem_cons_succ, List.setIfInBounds_toArray, List.set_cons_zero, List.set_cons_succ]
    refine wpAnyH_take (i := 31) (v := .bool false) rfl (by kernel_rfl) (by kernel_rfl) (by kernel_rfl) (fun _ _ _ h => h) (Or.inl ⟨by rfl, ?_⟩) (by assumption) ?_
    case refine_1 => intro W hSw; go_simp; try rfl
    try simp only [Act.put, List.getElem_toArray, List.getElem_cons_zero, List.getElem_cons_succ, List.setIfInBounds_toArray, List.set_cons_zero, List.set_cons_succ]
    refine wpAnyH_take (i := 32) (v := .bool false) rfl (by kernel_rfl) (by kernel_rfl) (by kernel_rfl) (fun _ _ _ h => h) (Or.inl ⟨by rfl, ?_⟩) (by assumption) ?_
    case refine_1 => intro W hSw; go_simp; try rfl
    try simp only [Act.put, List.getElem_toArray, List.getElem_cons_zero, List.getElem_cons_succ, List.setIfInBounds_toArray, List.set_cons_zero, List.set_cons_succ]
    refine wpAnyH_take (i := 33) (v := .bool false) rfl (by kernel_rfl) (by kernel_rfl) (by kernel_rfl) (fun _ _ _ h => h) (Or.inl ⟨by rfl, ?_⟩) (by assumption) ?_
    case refine_1 => intro W hSw; go_simp; try rfl
    try simp only [Act.put, List.getElem_toArray, List.getElem_cons_zero, List.getElem_cons_succ, List.setIfInBounds_toArray, List.set_cons_zero, List.set_cons_succ]
    refine wpAnyH_done (by kernel_rfl) ?_ _
    clear hHeld
    go_wp2_with (first | (refine list_bnew EE rfl _ rfl rfl (by simp [execOp, go_sem]; rfl) ?_))
    intro b4 w4 hb hs hbl
    have HB4 : Hid (Below wd.heap.size wd w4 ∧ wd.heap.size ≤ b4) := ⟨hbl.out, by rw [hb.out]; exact Nat.le_refl _⟩
    have HO4 : Hid (OwnL EE w.heap.size w4 (.slice (some ⟨b4, 0, none⟩) 0 0) []) := hs.out.mono HBD.out.size
    clear hb hs hbl
    have HL4 : Hid (Lst EE w4 (some ⟨lb, lo, none⟩ : Option Addr) l) := HL.out.bel (HBD.out.trans (HB4.out.1.mono HBD.out.size))
    have HA : Hid (((some ⟨lb, lo, none⟩ : Option Addr) = none ∨ ∃ b f, (some ⟨lb, lo, none⟩ : Option Addr) = some ⟨b, f, none⟩) ∧ ((some ⟨lb, lo, none⟩ : Option Addr) = none → n = 0 ∧ c = 0)) := ⟨HX.out.2.2.2.2.1, HX.out.2.2.2.1⟩
    have hlk : Hid ((l.take k).length = k) := by show _ = _; rw [List.length_take]; have := HX.out.2.1; have := HI.out.2.2.1; omega
    go_wp2_with (first | (refine list_sliceh EE rfl _ _ 22 rfl rfl (a := (some ⟨lb, lo, none⟩ : Option Addr)) (n := n) (c := c) (h := k) rfl rfl HA.out.1 (by have := HI.out.2.2.1; have := HX.out.2.2.1; omega) ?_) | (at_builtin; refine list_appL EE rfl _ _ 22 rfl rfl w.heap.size (.slice (some ⟨b4, 0, none⟩) 0 0) [] (l.take k) (some ⟨lb, lo, none⟩ : Option Addr) k c w4 (by have := HX.out; have := HI.out.2.2.1; simp; omega) rfl HO4.out rfl (HL4.out.take k) (fun h => by have h1 := HA.out.2 h; have := HI.out.2.2.1; omega) hlk.out (Nat.le_trans HBD.out.size HB4.out.1.size) ?_))
    intro v5 w5 ho hg ha
    obtain ⟨a5, c5, rfl⟩ := own_sl ho.out
    have HO5 : Hid (OwnL EE w.heap.size w5 (.slice a5 k c5) (l.take k)) := by
      have h5 := ho.out
      try simp only [List.nil_append] at h5
      rw [hlk.out] at h5
      exact h5
    have HB5 : Hid (Below wd.heap.size wd w5) := HB4.out.1.trans ((Below.refl _ w4).grown hg.out HB4.out.1.size (fun g e => by cases e; exact HB4.out.2))
    try simp only [List.nil_append]
    rw [hlk.out]
    clear ho hg ha HO4 HL4 HB4
    have HS5 : Hid (SB EdK b3 (edL e) w5) := HSD.out.blk (HB5.out.block b3 HSD.out.lt)
    go_wp2_with (first | (refine list_sload EdK rfl _ rfl (b := b3) (cs := edL e) rfl HS5.out rfl ?_) | (refine list_ebuild rfl _ rfl (m := e) rfl ?_))
    intro b6 w6 hb hs hbl
    have HB6 : Hid (Below w5.heap.size w5 w6) := hbl.out
    have HL6 : Hid (Lst EE w6 (some ⟨b6, 0, none⟩) [e]) := hs.out
    clear hb hs hbl
    go_wp2_with (at_builtin; refine list_appL EE rfl _ _ 22 rfl rfl w.heap.size (.slice a5 k c5) (l.take k) [e] (some ⟨b6, 0, none⟩) 1 1 w6 (by have := HX.out; have := HI.out.2.2.1; have := hlk.out; omega) rfl (HO5.out.bel HB6.out) rfl HL6.out (fun h => by cases h) rfl (Nat.le_trans (Nat.le_trans HBD.out.size HB5.out.size) HB6.out.size) ?_)
    intro v7 w7 ho hg ha
    obtain ⟨a7, c7, rfl⟩ := own_sl ho.out
    have hlk1 : Hid ((l.take k ++ [e]).length = k + 1) := by show _ = _; rw [List.length_append, hlk.out]; rfl
    have HO7 : Hid (OwnL EE w.heap.size w7 (.slice a7 (k + 1) c7) (l.take k ++ [e])) := by have h5 := ho.out; rw [hlk1.out] at h5; exact h5
    have HB7 : Hid (Below w.heap.size w w7) := (HBD.out.trans ((HB5.out.trans (HB6.out.mono HB5.out.size)).mono HBD.out.size)).trans ((Below.refl _ w6).grown hg.out (Nat.le_trans (Nat.le_trans HBD.out.size HB5.out.size) HB6.out.size) (fun g e => ((HO5.out.bel HB6.out).row.lt g e).1))
    rw [hlk1.out]
    clear ho hg ha HO5 HL6 HB6
    go_wp2_with (first | (refine list_slicel EE rfl _ _ 22 rfl rfl (a := (some ⟨lb, lo, none⟩ : Option Addr)) (n := n) (c := c) (l := k) rfl rfl l (HL.out.bel HB7.out) HX.out.2.1 HX.out.2.2.1 HA.out.2 HA.out.1 HI.out.2.2.1 ?_))
    intro va hva hvn
    go_wp2_with (at_builtin; refine list_appL EE rfl _ _ 22 rfl rfl w.heap.size (.slice a7 (k + 1) c7) (l.take k ++ [e]) (l.drop k) va (n - k) (c - k) w7 (by have := HX.out; have := HI.out.2.2.1; have := hlk1.out; omega) rfl HO7.out rfl hva.out hvn.out (by rw [List.length_drop]; have := HX.out.2.1; omega) HB7.out.size ?_)
    intro v9 w9 ho hg ha
    have HE : Hid (PlPost w l e (.returned v9) w9) := ⟨k, v9, rfl, by have := HX.out.2.1; have := HI.out.2.2.1; omega, HI.out.2.2.2, HST.out, by have h5 := ho.out; first | exact h5 | (rw [List.append_assoc] at h5; exact h5), HB7.out.trans ((Below.refl _ w7).grown hg.out HB7.out.size (fun g e => (HO7.out.row.lt g e).1))⟩
    obtain ⟨a9, c9, rfl⟩ := own_sl ho.out
    clear ho hg ha hva hvn HO7
    go_wp2_with fail
    go_ret
    exact HE.out
end Go.Proofs.Ythhdpfgepjmgkaa.Dj
namespace Go.Proofs.Ythhdpfgepjmgkaa.Dj
open Go.ChangeShapes Go.WideShapes Go.ChangeAt Go.RowKit Go.Joins Go.Deep Go.Proofs.Ythhdpfgepjmgkaa.Ge
set_option linter.unusedVariables false
set_option linter.unusedSimpArgs false

def SaPost (w : World) (l : List Rc) (e : Rc) (en : Ending) (w' : World) : Prop := ∃ (k : Nat) (v : Value), en = .returned v ∧ k ≤ l.length ∧ (∀ j x, j < k → l[j]? = some x → x.n < e.n) ∧ (∀ x, l[k]? = some x → ¬ x.n < e.n) ∧ OwnL ER w.heap.size w' v (l.take k ++ e :: l.drop k) ∧ Below w.heap.size w w'
set_option maxRecDepth 100000 in
set_option maxHeartbeats 32000000 in
theorem spfadd_any (N : Nat) (a : Option Addr) (n c : Nat) (l : List Rc) (e : Rc) (w : World) (hb : n < 1000000000) (h : OwnL ER N w (.slice a n c) l) : Calls Try.prog 24 #[.slice a n c, .agg (rcL e).toArray] w (SaPost w l e) := by
  obtain ⟨hfa, hfn, hfc, hfz⟩ := h.addr
  have HX : Hid (OwnL ER N w (.slice a n c) l ∧ l.length = n ∧ n ≤ c ∧ (a = none → n = 0 ∧ c = 0) ∧ (a = none ∨ ∃ b f, a = some ⟨b, f, none⟩) ∧ n < 1000000000) := ⟨h, hfn, hfc, hfz, hfa, hb⟩
  have HL : Hid (Lst ER w a l) := h.lst.1
  have hn0 : (n : Int) < 1000000000 := by omega
  have hn2 : (0 : Int) ≤ (n : Int) := by omega
  clear h hfn hfc hfz hfa hb
  go_enter Try.func24, Try.ntmps24
  go_wp2_with (refine list_boxl RcK rfl _ rfl (cs := rcL e) rfl ?_)
  intro b3 w1 hb hs hbl
  have HS1 : Hid (SB RcK b3 (rcL e) w1) := hs.out
  have HB1 : Hid (w.heap.size ≤ b3 ∧ Below w.heap.size w w1) := ⟨by rw [hb.out]; exact Nat.le_refl _, hbl.out⟩
  clear hb hs hbl
  go_wp2_with fail
  go_loopw [5] (fun iv wr => ∃ (k : Nat), k ≤ n ∧ iv = .int .i64 (k : Int) ∧ Below w.heap.size w wr ∧ SB RcK b3 (rcL e) wr ∧ ∀ j x, j < k → l[j]? = some x → x.n < e.n) (fun iv _ => n - (intOf iv).toNat)
  case atStart => exact ⟨0, Nat.zero_le _, rfl, HB1.out.2, HS1.out, fun j x h => absurd h (Nat.not_lt_zero j)⟩
  case round =>
    obtain ⟨k, hkn, rfl, hbl, hsb, hlt⟩ := hrel
    obtain ⟨wz, hwz⟩ : ∃ y, wr = y := ⟨_, rfl⟩
    rw [hwz] at hbl hsb ⊢
    have HI : Hid (Below w.heap.size w wz ∧ SB RcK b3 (rcL e) wz ∧ k ≤ n ∧ ∀ j x, j < k → l[j]? = some x → x.n < e.n) := ⟨hbl, hsb, hkn, hlt⟩
    have hk0 : (k : Int) < 1000000000 := by omega
    have hk2 : (0 : Int) ≤ (k : Int) := by omega
    clear hbl hsb hlt hwz
    obtain ⟨wd, hwd⟩ : ∃ y, wz.drew = y := ⟨_, rfl⟩
    have HWD : Hid (wz.drew = wd) := hwd
    have HBD : Hid (Below w.heap.size w wd) := by rw [← hwd]; exact HI.out.1.trans ((drew_bel wz).mono HI.out.1.size)
    have HSD : Hid (SB RcK b3 (rcL e) wd) := by rw [← hwd]; exact HI.out.2.1.blk ((drew_bel wz).block b3 HI.out.2.1.lt)
    clear hwd
    by_cases hkl : k < n
    case neg =>
      have hkk : ¬ (k : Int) < (n : Int) := by omega
      have HST : Hid (∀ x, l[k]? = some x → ¬ x.n < e.n) := fun x hx => by have h1 := (List.getElem?_eq_some_iff.1 hx).1; have h2 := HX.out.2.1; omega
      go_upto_region 2 with fail
      refine wp_region_held_drew (S := fun W => W = wd) (by kernel_rfl) HWD.out (fun hHeld => ?_)
      rw [HWD.out] at hHeld ⊢
      refine wpAnyH_take (i := 0) (v := .int .i64 (k : Int)) rfl (by kernel_rfl) (by kernel_rfl) (by kernel_rfl) (fun _ _ _ h => h) (Or.inl ⟨by rfl, ?_⟩) (by assumption) ?_
      case refine_1 => intro W hSw; go_simp; try rfl
      try simp only [Act.put, List.getElem_toArray, List.getElem_cons_zero, List.getElem_cons_succ, List.setIfInBounds_toArray, List.set_cons_zero, List.set_cons_succ]
      refine wpAnyH_take (i := 1) (v := .slice a n c) rfl (by kernel_rfl) (by kernel_rfl) (by kernel_rfl) (fun _ _ _ h => h) (Or.inl ⟨by rfl, ?_⟩) (by assumption) ?_
      case refine_1 => intro W hSw; go_simp; try rfl
      try simp only [Act.put, List.getElem_toArray, List.getElem_cons_zero, List.getElem_cons_succ, List.setIfInBounds_toArray, List.set_cons_zero, List.set_cons_succ]
      refine wpAnyH_take (i := 2) (v := .int .i64 (n : Int)) rfl (by kernel_rfl) (by kernel_rfl) (by kernel_rfl) (fun _ _ _ h => h) (Or.inl ⟨by rfl, ?_⟩) (by assumption) ?_
      case refine_1 => intro W hSw; go_simp; try rfl
      try simp only [Act.put, List.getElem_toArray, List.getElem_cons_zero, List.getElem_cons_succ, List.setIfInBounds_toArray, List.set_cons_zero, List.set_cons_succ]
      refine wpAnyH_take (i := 3) (v := .bool false) rfl (by kernel_rfl) (by kernel_rfl) (by kernel_rfl) (fun _ _ _ h => h) (Or.inl ⟨by rfl, ?_⟩) (by assumption) ?_
      case refine_1 => intro W hSw; go_simp; try rfl
      try simp only [Act.put, List.getElem_toArray, List.getElem_cons_zero, List.getElem_cons_succ, List.setIfInBounds_toArray, List.set_cons_zero, List.set_cons_succ]
      refine wpAnyH_take (i := 4) (v := .bool false) rfl (by kernel_rfl) (by kernel_rfl) (by kernel_rfl) (fun _ _ _ h => h) (Or.inl ⟨by rfl, ?_⟩) (by assumption) ?_
      case refine_1 => intro W hSw; go_simp; try rfl
      try simp only [Act.put, List.getElem_toArray, List.getElem_cons_zero, List.getElem_cons_succ, List.setIfInBounds_toArray, List.set_cons_zero, List.set_cons_succ]
      refine wpAnyH_take (i := 5) (v := undef) rfl (by kernel_rfl) (by kernel_rfl) (by kernel_rfl) (fun _ _ _ h => h) (Or.inr ⟨by rfl, rfl⟩) (by assumption) ?_
      try simp only [Act.put, List.getElem_toArray, List.getElem_cons_zero, List.getElem_cons_succ, List.setIfInBounds_toArray, List.set_cons_zero, List.set_cons_succ]
      refine wpAnyH_take (i := 6) (v := undef) rfl (by kernel_rfl) (by kernel_rfl) (by kernel_rfl) (fun _ _ _ h => h) (Or.inr ⟨by rfl, rfl⟩) (by assumption) ?_
      try simp only [Act.put, List.getElem_toArray, List.getElem_cons_zero, List.getElem_cons_succ, List.setIfInBounds_toArray, List.set_cons_zero, List.set_cons_succ]
      refine wpAnyH_take (i := 7) (v := undef) rfl (by kernel_rfl) (by kernel_rfl) (by kernel_rfl) (fun _ _ _ h => h) (Or.inr ⟨by rfl, rfl⟩) (by assumption) ?_
      try simp only [Act.put, List.getElem_toArray, List.getElem_cons_zero, List.getElem_cons_succ, List.setIfInBounds_toArray, List.set_cons_zero, List.set_cons_succ]
      refine wpAnyH_take (i := 8) (v := undef) rfl (by kernel_rfl) (by kernel_rfl) (by kernel_rfl) (fun _ _ _ h => h) (Or.inr ⟨by rfl, rfl⟩) (by assumption) ?_
      try simp only [Act.put, List.getElem_toArray, List.getElem_cons_zero, List.getElem_cons_succ, List.setIfInBounds_toArray, List.set_cons_zero, List.set_cons_succ]
      refine wpAnyH_take (i := 9) (v := undef) rfl (by kernel_rfl) (by kernel_rfl) (by kernel_rfl) (fun _ _ _ h => h) (Or.inr ⟨by rfl, rfl⟩) (by assumption) ?_
      try simp only [Act.put, List.getElem_toArray, List.getElem_cons_zero, List.getElem_cons_succ, List.setIfInBounds_toArray, List.set_cons_zero, List.set_cons_succ]
      refine wpAnyH_take (i := 10) (v := undef) rfl (by kernel_rfl) (by kernel_rfl) (by kernel_rfl) (fun _ _ _ h => h) (Or.inr ⟨by rfl, rfl⟩) (by assumption) ?_
      try simp only [Act.put, List.getElem_toArray, List.getElem_cons_zero, List.getElem_cons_succ, List.setIfInBounds_toArray, List.set_cons_zero, List.set_cons_succ]
      refine wpAnyH_take (i := 11) (v := undef) rfl (by kernel_rfl) (by kernel_rfl) (by kernel_rfl) (fun _ _ _ h => h) (Or.inr ⟨by rfl, rfl⟩) (by assumption) ?_
      try simp only [Act.put, List.getElem_toArray, List.getElem_cons_zero, List.getElem_cons_succ, List.setIfInBounds_toArray, List.set_cons_zero, List.set_cons_succ]
      refine wpAnyH_take (i := 12) (v := undef) rfl (by kernel_rfl) (by kernel_rfl) (by kernel_rfl) (fun _ _ _ h => h) (Or.inr ⟨by rfl, rfl⟩) (by assumption) ?_
      try simp only [Act.put, List.getElem_toArray, List.getElem_cons_zero, List.getElem_cons_succ, List.setIfInBounds_toArray, List.set_cons_zero, List.set_cons_succ]
      refine wpAnyH_take (i := 13) (v := .bool false) rfl (by kernel_rfl) (by kernel_rfl) (by kernel_rfl) (fun _ _ _ h => h) (Or.inl ⟨by rfl, ?_⟩) (by assumption) ?_
      case refine_1 => intro W hSw; go_simp; try rfl
      try simp only [Act.put, List.getElem_toArray, List.getElem_cons_zero, List.getElem_cons_succ, List.setIfInBounds_toArray, List.set_cons_zero, List.set_cons_succ]
      refine wpAnyH_done (by kernel_rfl) ?_ _
      clear hHeld
      go_wp2_with (first | (refine list_bnew ER rfl _ rfl rfl (by simp [execOp, go_sem]; rfl) ?_))
      intro b4 w4 hb hs hbl
      have HB4 : Hid (Below wd.heap.size wd w4 ∧ wd.heap.size ≤ b4) := ⟨hbl.out, by rw [hb.out]; exact Nat.le_refl _⟩
      have HO4 : Hid (OwnL ER w.heap.size w4 (.slice (some ⟨b4, 0, none⟩) 0 0) []) := hs.out.mono HBD.out.size
      clear hb hs hbl
      have HL4 : Hid (Lst ER w4 a l) := HL.out.bel (HBD.out.trans (HB4.out.1.mono HBD.out.size))
      have HA : Hid ((a = none ∨ ∃ b f, a = some ⟨b, f, none⟩) ∧ (a = none → n = 0 ∧ c = 0)) := ⟨HX.out.2.2.2.2.1, HX.out.2.2.2.1⟩
      have hlk : Hid ((l.take k).length = k) := by show _ = _; rw [List.length_take]; have := HX.out.2.1; have := HI.out.2.2.1; omega
      go_wp2_with (first | (refine list_sliceh ER rfl _ _ 23 rfl rfl (a := a) (n := n) (c := c) (h := k) rfl rfl HA.out.1 (by have := HI.out.2.2.1; have := HX.out.2.2.1; omega) ?_) | (at_builtin; refine list_appL ER rfl _ _ 23 rfl rfl w.heap.size (.slice (some ⟨b4, 0, none⟩) 0 0) [] (l.take k) a k c w4 (by have := HX.out; have := HI.out.2.2.1; simp; omega) rfl HO4.out rfl (HL4.out.take k) (fun h => by have h1 := HA.out.2 h; have := HI.out.2.2.1; omega) hlk.out (Nat.le_trans HBD.out.size HB4.out.1.size) ?_))
      intro v5 w5 ho hg ha
      obtain ⟨a5, c5, rfl⟩ := own_sl ho.out
      have HO5 : Hid (OwnL ER w.heap.size w5 (.slice a5 k c5) (l.take k)) := by
        have h5 := ho.out
        try simp only [List.nil_append] at h5
        rw [hlk.out] at h5
        exact h5
      have HB5 : Hid (Below wd.heap.size wd w5) := HB4.out.1.trans ((Below.refl _ w4).grown hg.out HB4.out.1.size (fun g e => by cases e; exact HB4.out.2))
      try simp only [List.nil_append]
      rw [hlk.out]
      clear ho hg ha HO4 HL4 HB4
      have HS5 : Hid (SB RcK b3 (rcL e) w5) := HSD.out.blk (HB5.out.block b3 HSD.out.lt)
      go_wp2_with (first | (refine list_sload RcK rfl _ rfl (b := b3) (cs := rcL e) rfl HS5.out rfl ?_) | (refine list_rbuild rfl _ rfl (m := e) rfl ?_))
      intro b6 w6 hb hs hbl
      have HB6 : Hid (Below w5.heap.size w5 w6) := hbl.out
      have HL6 : Hid (Lst ER w6 (some ⟨b6, 0, none⟩) [e]) := hs.out
      clear hb hs hbl
      go_wp2_with (at_builtin; refine list_appL ER rfl _ _ 23 rfl rfl w.heap.size (.slice a5 k c5) (l.take k) [e] (some ⟨b6, 0, none⟩) 1 1 w6 (by have := HX.out; have := HI.out.2.2.1; have := hlk.out; omega) rfl (HO5.out.bel HB6.out) rfl HL6.out (fun h => by cases h) rfl (Nat.le_trans (Nat.le_trans HBD.out.size HB5.out.size) HB6.out.size) ?_)
      intro v7 w7 ho hg ha
      obtain ⟨a7, c7, rfl⟩ := own_sl ho.out
      have hlk1 : Hid ((l.take k ++ [e]).length = k + 1) := by show _ = _; rw [List.length_append, hlk.out]; rfl
      have HO7 : Hid (OwnL ER w.heap.size w7 (.slice a7 (k + 1) c7) (l.take k ++ [e])) := by have h5 := ho.out; rw [hlk1.out] at h5; exact h5
      have HB7 : Hid (Below w.heap.size w w7) := (HBD.out.trans ((HB5.out.trans (HB6.out.mono HB5.out.size)).mono HBD.out.size)).trans ((Below.refl _ w6).grown hg.out (Nat.le_trans (Nat.le_trans HBD.out.size HB5.out.size) HB6.out.size) (fun g e => ((HO5.out.bel HB6.out).row.lt g e).1))
      rw [hlk1.out]
      clear ho hg ha HO5 HL6 HB6
      go_wp2_with (first | (refine list_slicel ER rfl _ _ 23 rfl rfl (a := a) (n := n) (c := c) (l := k) rfl rfl l (HL.out.bel HB7.out) HX.out.2.1 HX.out.2.2.1 HA.out.2 HA.out.1 HI.out.2.2.1 ?_))
      intro va hva hvn
      go_wp2_with (at_builtin; refine list_appL ER rfl _ _ 23 rfl rfl w.heap.size (.slice a7 (k + 1) c7) (l.take k ++ [e]) (l.drop k) va (n - k) (c - k) w7 (by have := HX.out; have := HI.out.2.2.1; have := hlk1.out; omega) rfl HO7.out rfl hva.out hvn.out (by rw [List.length_drop]; have := HX.out.2.1; omega) HB7.out.size ?_)
      intro v9 w9 ho hg ha
      have HE : Hid (SaPost w l e (.returned v9) w9) := ⟨k, v9, rfl, by have := HX.out.2.1; have := HI.out.2.2.1; omega, HI.out.2.2.2, (fun y hy => by have := HST.out y hy; omega), by have h5 := ho.out; first | exact h5 | (rw [List.append_assoc] at h5; exact h5), HB7.out.trans ((Below.refl _ w7).grown hg.out HB7.out.size (fun g e => (HO7.out.row.lt g e).1))⟩
      obtain ⟨a9, c9, rfl⟩ := own_sl ho.out
      clear ho hg ha hva hvn HO7
      go_wp2_with fail
      go_ret
      exact HE.out
    have hkk : (k : Int) < (n : Int) := by omega
    obtain ⟨x, hx⟩ : ∃ y, l[k]? = some y := ⟨l[k]'(by have := HX.out.2.1; omega), List.getElem?_eq_getElem _⟩
    have HXK : Hid (l[k]? = some x) := hx
    obtain ⟨lb, lo, hal, -, hce⟩ := (HL.out.bel HBD.out).cells k (by have := HX.out.2.1; omega)
    have HC : Hid (∀ q, q < 3 → wd.cell? ⟨lb, lo + k * 3 + q, none⟩ = (rcL x)[q]?) := fun q hq => by
      have h1 := hce q hq
      obtain ⟨hj, hx2⟩ := List.getElem?_eq_some_iff.1 hx
      rw [hx2] at h1
      exact h1
    clear hce hx
    have HG : Hid (x.n < e.n → ∃ (k2 : Nat), k2 ≤ n ∧ Value.int .i64 (↑k + 1) = .int .i64 (k2 : Int) ∧ Below w.heap.size w wd ∧ SB RcK b3 (rcL e) wd ∧ ∀ j y, j < k2 → l[j]? = some y → y.n < e.n) := fun hlx => ⟨k + 1, by omega, by simp, HBD.out, HSD.out, fun j y hj hy => by
      by_cases c : j = k
      · subst c
        rw [HXK.out] at hy
        cases hy
        exact hlx
      · exact HI.out.2.2.2 j y (by omega) hy⟩
    subst hal
    have HXN : Hid (¬ x.n < e.n → ∀ y, l[k]? = some y → ¬ y.n < e.n) := fun h y hy => by rw [HXK.out] at hy; cases hy; exact h
    have m0 : wd.cell? ⟨lb, lo + k * 3, none⟩ = some (.int .i64 x.n) := HC.out 0 (by decide)
    have p0 : wd.cell? ⟨b3, 0, none⟩ = some (.int .i64 e.n) := HSD.out.cell 0
    have M : Hid (wd.cell? ⟨lb, lo + k * 3, none⟩ = some (.int .i64 x.n) ∧ wd.cell? ⟨b3, 0, none⟩ = some (.int .i64 e.n)) := ⟨m0, p0⟩
    clear m0 p0
    go_upto_region 2 with fail
    refine wp_region_held_drew (S := fun W => W = wd) (by kernel_rfl) HWD.out (fun hHeld => ?_)
    rw [HWD.out] at hHeld ⊢
    refine wpAnyH_take (i := 0) (v := .int .i64 (k : Int)) rfl (by kernel_rfl) (by kernel_rfl) (by kernel_rfl) (fun _ _ _ h => h) (Or.inl ⟨by rfl, ?_⟩) (by assumption) ?_
    case refine_1 => intro W hSw; go_simp; try rfl
    try simp only [Act.put, List.getElem_toArray, List.getElem_cons_zero, List.getElem_cons_succ, List.setIfInBounds_toArray, List.set_cons_zero, List.set_cons_succ]
    refine wpAnyH_take (i := 1) (v := .slice (some ⟨lb, lo, none⟩) n c) rfl (by kernel_rfl) (by kernel_rfl) (by kernel_rfl) (fun _ _ _ h => h) (Or.inl ⟨by rfl, ?_⟩) (by assumption) ?_
    case refine_1 => intro W hSw; go_simp; try rfl
    try simp only [Act.put, List.getElem_toArray, List.getElem_cons_zero, List.getElem_cons_succ, List.setIfInBounds_toArray, List.set_cons_zero, List.set_cons_succ]
    refine wpAnyH_take (i := 2) (v := .int .i64 (n : Int)) rfl (by kernel_rfl) (by kernel_rfl) (by kernel_rfl) (fun _ _ _ h => h) (Or.inl ⟨by rfl, ?_⟩) (by assumption) ?_
    case refine_1 => intro W hSw; go_simp; try rfl
    try simp only [Act.put, List.getElem_toArray, List.getElem_cons_zero, List.getElem_cons_succ, List.setIfInBounds_toArray, List.set_cons_zero, List.set_cons_succ]
    refine wpAnyH_take (i := 3) (v := .bool true) rfl (by kernel_rfl) (by kernel_rfl) (by kernel_rfl) (fun _ _ _ h => h) (Or.inl ⟨by rfl, ?_⟩) (by assumption) ?_
    case refine_1 => intro W hSw; go_simp; try rfl
    try simp only [Act.put, List.getElem_toArray, List.getElem_cons_zero, List.getElem_cons_succ, List.setIfInBounds_toArray, List.set_cons_zero, List.set_cons_succ]
    refine wpAnyH_take (i := 4) (v := .bool true) rfl (by kernel_rfl) (by kernel_rfl) (by kernel_rfl) (fun _ _ _ h => h) (Or.inl ⟨by rfl, ?_⟩) (by assumption) ?_
    case refine_1 => intro W hSw; go_simp; try rfl
    try simp only [Act.put, List.getElem_toArray, List.getElem_cons_zero, List.getElem_cons_succ, List.setIfInBounds_toArray, List.set_cons_zero, List.set_cons_succ]
    refine wpAnyH_take (i := 5) (v := .slice (some ⟨lb, lo, none⟩) n c) rfl (by kernel_rfl) (by kernel_rfl) (by kernel_rfl) (fun _ _ _ h => h) (Or.inl ⟨by rfl, ?_⟩) (by assumption) ?_
    case refine_1 => intro W hSw; go_simp; try rfl
    try simp only [Act.put, List.getElem_toArray, List.getElem_cons_zero, List.getElem_cons_succ, List.setIfInBounds_toArray, List.set_cons_zero, List.set_cons_succ]
    refine wpAnyH_take (i := 6) (v := .int .i64 (k : Int)) rfl (by kernel_rfl) (by kernel_rfl) (by kernel_rfl) (fun _ _ _ h => h) (Or.inl ⟨by rfl, ?_⟩) (by assumption) ?_
    case refine_1 => intro W hSw; go_simp; try rfl
    try simp only [Act.put, List.getElem_toArray, List.getElem_cons_zero, List.getElem_cons_succ, List.setIfInBounds_toArray, List.set_cons_zero, List.set_cons_succ]
    refine wpAnyH_take (i := 7) (v := .pointer (some ⟨lb, lo + k * 3, none⟩)) rfl (by kernel_rfl) (by kernel_rfl) (by kernel_rfl) (fun _ _ _ h => h) (Or.inl ⟨by rfl, ?_⟩) (by assumption) ?_
    case refine_1 => intro W hSw; go_simp; try rfl
    try simp only [Act.put, List.getElem_toArray, List.getElem_cons_zero, List.getElem_cons_succ, List.setIfInBounds_toArray, List.set_cons_zero, List.set_cons_succ]
    refine wpAnyH_take (i := 8) (v := .pointer (some ⟨lb, lo + k * 3, none⟩)) rfl (by kernel_rfl) (by kernel_rfl) (by kernel_rfl) (fun _ _ _ h => h) (Or.inl ⟨by rfl, ?_⟩) (by assumption) ?_
    case refine_1 => intro W hSw; go_simp; try rfl
    try simp only [Act.put, List.getElem_toArray, List.getElem_cons_zero, List.getElem_cons_succ, List.setIfInBounds_toArray, List.set_cons_zero, List.set_cons_succ]
    refine wpAnyH_take (i := 9) (v := .int .i64 x.n) rfl (by kernel_rfl) (by kernel_rfl) (by kernel_rfl) (fun _ _ _ h => h) (Or.inl ⟨by rfl, ?_⟩) (by assumption) ?_
    case refine_1 => intro W hSw; rw [hSw]; have k1 := M.out.1; go_simp; try rfl
    try simp only [Act.put, List.getElem_toArray, List.getElem_cons_zero, List.getElem_cons_succ, List.setIfInBounds_toArray, List.set_cons_zero, List.set_cons_succ]
    refine wpAnyH_take (i := 10) (v := .pointer (some ⟨b3, 0, none⟩)) rfl (by kernel_rfl) (by kernel_rfl) (by kernel_rfl) (fun _ _ _ h => h) (Or.inl ⟨by rfl, ?_⟩) (by assumption) ?_
    case refine_1 => intro W hSw; go_simp; try rfl
    try simp only [Act.put, List.getElem_toArray, List.getElem_cons_zero, List.getElem_cons_succ, List.setIfInBounds_toArray, List.set_cons_zero, List.set_cons_succ]
    refine wpAnyH_take (i := 11) (v := .int .i64 e.n) rfl (by kernel_rfl) (by kernel_rfl) (by kernel_rfl) (fun _ _ _ h => h) (Or.inl ⟨by rfl, ?_⟩) (by assumption) ?_
    case refine_1 => intro W hSw; rw [hSw]; have k1 := M.out.2; go_simp; try rfl
    try simp only [Act.put, List.getElem_toArray, List.getElem_cons_zero, List.getElem_cons_succ, List.setIfInBounds_toArray, List.set_cons_zero, List.set_cons_succ]
    by_cases hff : x.n < e.n
    case pos =>
      have hdf : decide (x.n < e.n) = true := decide_eq_true hff
      have HLX : Hid (x.n < e.n) := hff
      refine wpAnyH_take (i := 12) (v := .bool true) rfl (by kernel_rfl) (by kernel_rfl) (by kernel_rfl) (fun _ _ _ h => h) (Or.inl ⟨by rfl, ?_⟩) (by assumption) ?_
      case refine_1 => intro W hSw; go_simp; try rfl
      try simp only [Act.put, List.getElem_toArray, List.getElem_cons_zero, List.getElem_cons_succ, List.setIfInBounds_toArray, List.set_cons_zero, List.set_cons_succ]
      refine wpAnyH_take (i := 13) (v := .bool true) rfl (by kernel_rfl) (by kernel_rfl) (by kernel_rfl) (fun _ _ _ h => h) (Or.inl ⟨by rfl, ?_⟩) (by assumption) ?_
      case refine_1 => intro W hSw; go_simp; try rfl
      try simp only [Act.put, List.getElem_toArray, List.getElem_cons_zero, List.getElem_cons_succ, List.setIfInBounds_toArray, List.set_cons_zero, List.set_cons_succ]
      refine wpAnyH_done (by kernel_rfl) ?_ _
      clear hHeld
      go_wp2_with fail
      refine ⟨HG.out HLX.out, ?_⟩
      simp [intOf]
      omega
    have hdf : decide (x.n < e.n) = false := decide_eq_false hff
    have HST : Hid (∀ y, l[k]? = some y → ¬ y.n < e.n) := HXN.out hff
    refine wpAnyH_take (i := 12) (v := .bool false) rfl (by kernel_rfl) (by kernel_rfl) (by kernel_rfl) (fun _ _ _ h => h) (Or.inl ⟨by rfl, ?_⟩) (by assumption) ?_
    case refine_1 => intro W hSw; go_simp; try rfl
    try simp only [Act.put, List.getElem_toArray, List.getElem_cons_zero, List.getElem_cons_succ, List.setIfInBounds_toArray, List.set_cons_zero, List.set_cons_succ]
    refine wpAnyH_take (i := 13) (v := .bool false) rfl (by kernel_rfl) (by kernel_rfl) (by kernel_rfl) (fun _ _ _ h => h) (Or.inl ⟨by rfl, ?_⟩) (by assumption) ?_
    case refine_1 => intro W hSw; go_simp; try rfl
    try simp only [Act.put, List.getElem_toArray, List.getElem_cons_zero, List.getElem_cons_succ, List.setIfInBounds_toArray, List.set_cons_zero, List.set_cons_succ]
    refine wpAnyH_done (by kernel_rfl) ?_ _
    clear hHeld
    go_wp2_with (first | (refine list_bnew ER rfl _ rfl rfl (by simp [execOp, go_sem]; rfl) ?_))
    intro b4 w4 hb hs hbl
    have HB4 : Hid (Below wd.heap.size wd w4 ∧ wd.heap.size ≤ b4) := ⟨hbl.out, by rw [hb.out]; exact Nat.le_refl _⟩
    have HO4 : Hid (OwnL ER w.heap.size w4 (.slice (some ⟨b4, 0, none⟩) 0 0) []) := hs.out.mono HBD.out.size
    clear hb hs hbl
    have HL4 : Hid (Lst ER w4 (some ⟨lb, lo, none⟩ : Option Addr) l) := HL.out.bel (HBD.out.trans (HB4.out.1.mono HBD.out.size))
    have HA : Hid (((some ⟨lb, lo, none⟩ : Option Addr) = none ∨ ∃ b f, (some ⟨lb, lo, none⟩ : Option Addr) = some ⟨b, f, none⟩) ∧ ((some ⟨lb, lo, none⟩ : Option Addr) = none → n = 0 ∧ c = 0)) := ⟨HX.out.2.2.2.2.1, HX.out.2.2.2.1⟩
    have hlk : Hid ((l.take k).length = k) := by show _ = _; rw [List.length_take]; have := HX.out.2.1; have := HI.out.2.2.1; omega
    go_wp2_with (first | (refine list_sliceh ER rfl _ _ 23 rfl rfl (a := (some ⟨lb, lo, none⟩ : Option Addr)) (n := n) (c := c) (h := k) rfl rfl HA.out.1 (by have := HI.out.2.2.1; have := HX.out.2.2.1; omega) ?_) | (at_builtin; refine list_appL ER rfl _ _ 23 rfl rfl w.heap.size (.slice (some ⟨b4, 0, none⟩) 0 0) [] (l.take k) (some ⟨lb, lo, none⟩ : Option Addr) k c w4 (by have := HX.out; have := HI.out.2.2.1; simp; omega) rfl HO4.out rfl (HL4.out.take k) (fun h => by have h1 := HA.out.2 h; have := HI.out.2.2.1; omega) hlk.out (Nat.le_trans HBD.out.size HB4.out.1.size) ?_))
    intro v5 w5 ho hg ha
    obtain ⟨a5, c5, rfl⟩ := own_sl ho.out
    have HO5 : Hid (OwnL ER w.heap.size w5 (.slice a5 k c5) (l.take k)) := by
      have h5 := ho.out
      try simp only [List.nil_append] at h5
      rw [hlk.out] at h5
      exact h5
    have HB5 : Hid (Below wd.heap.size wd w5) := HB4.out.1.trans ((Below.refl _ w4).grown hg.out HB4.out.1.size (fun g e => by cases e; exact HB4.out.2))
    try simp only [List.nil_append]
    rw [hlk.out]
    clear ho hg ha HO4 HL4 HB4
    have HS5 : Hid (SB RcK b3 (rcL e) w5) := HSD.out.blk (HB5.out.block b3 HSD.out.lt)
    go_wp2_with (first | (refine list_sload RcK rfl _ rfl (b := b3) (cs := rcL e) rfl HS5.out rfl ?_) | (refine list_rbuild rfl _ rfl (m := e) rfl ?_))
    intro b6 w6 hb hs hbl
    have HB6 : Hid (Below w5.heap.size w5 w6) := hbl.out
    have HL6 : Hid (Lst ER w6 (some ⟨b6, 0, none⟩) [e]) := hs.out
    clear hb hs hbl
    go_wp2_with (at_builtin; refine list_appL ER rfl _ _ 23 rfl rfl w.heap.size (.slice a5 k c5) (l.take k) [e] (some ⟨b6, 0, none⟩) 1 1 w6 (by have := HX.out; have := HI.out.2.2.1; have := hlk.out; omega) rfl (HO5.out.bel HB6.out) rfl HL6.out (fun h => by cases h) rfl (Nat.le_trans (Nat.le_trans HBD.out.size HB5.out.size) HB6.out.size) ?_)
    intro v7 w7 ho hg ha
    obtain ⟨a7, c7, rfl⟩ := own_sl ho.out
    have hlk1 : Hid ((l.take k ++ [e]).length = k + 1) := by show _ = _; rw [List.length_append, hlk.out]; rfl
    have HO7 : Hid (OwnL ER w.heap.size w7 (.slice a7 (k + 1) c7) (l.take k ++ [e])) := by have h5 := ho.out; rw [hlk1.out] at h5; exact h5
    have HB7 : Hid (Below w.heap.size w w7) := (HBD.out.trans ((HB5.out.trans (HB6.out.mono HB5.out.size)).mono HBD.out.size)).trans ((Below.refl _ w6).grown hg.out (Nat.le_trans (Nat.le_trans HBD.out.size HB5.out.size) HB6.out.size) (fun g e => ((HO5.out.bel HB6.out).row.lt g e).1))
    rw [hlk1.out]
    clear ho hg ha HO5 HL6 HB6
    go_wp2_with (first | (refine list_slicel ER rfl _ _ 23 rfl rfl (a := (some ⟨lb, lo, none⟩ : Option Addr)) (n := n) (c := c) (l := k) rfl rfl l (HL.out.bel HB7.out) HX.out.2.1 HX.out.2.2.1 HA.out.2 HA.out.1 HI.out.2.2.1 ?_))
    intro va hva hvn
    go_wp2_with (at_builtin; refine list_appL ER rfl _ _ 23 rfl rfl w.heap.size (.slice a7 (k + 1) c7) (l.take k ++ [e]) (l.drop k) va (n - k) (c - k) w7 (by have := HX.out; have := HI.out.2.2.1; have := hlk1.out; omega) rfl HO7.out rfl hva.out hvn.out (by rw [List.length_drop]; have := HX.out.2.1; omega) HB7.out.size ?_)
    intro v9 w9 ho hg ha
    have HE : Hid (SaPost w l e (.returned v9) w9) := ⟨k, v9, rfl, by have := HX.out.2.1; have := HI.out.2.2.1; omega, HI.out.2.2.2, (fun y hy => by have := HST.out y hy; omega), by have h5 := ho.out; first | exact h5 | (rw [List.append_assoc] at h5; exact h5), HB7.out.trans ((Below.refl _ w7).grown hg.out HB7.out.size (fun g e => (HO7.out.row.lt g e).1))⟩
    obtain ⟨a9, c9, rfl⟩ := own_sl ho.out
    clear ho hg ha hva hvn HO7
    go_wp2_with fail
    go_ret
    exact HE.out
def FiPost (w : World) (rs : List Rc) (n : Int) (e : Ending) (w' : World) : Prop := ∃ z : Int, e = .returned (.int .i64 z) ∧ w = w' ∧ ((z = -1 ∧ ∀ x ∈ rs, x.n ≠ n) ∨ ∃ (j : Nat) (q : Rc), z = (j : Int) ∧ rs[j]? = some q ∧ q.n = n)
set_option maxRecDepth 100000 in
set_option maxHeartbeats 16000000 in
theorem spffind_any (a : Option Addr) (m c : Nat) (rs : List Rc) (n : Int) (w : World) (hm : rs.length = m) (hb : m < 1000000000) (h : Lst ER w a rs) : Calls Try.prog 17 #[.slice a m c, .int .i64 n] w (FiPost w rs n) := by
  have HX : Hid (Lst ER w a rs ∧ rs.length = m ∧ m < 1000000000) := ⟨h, hm, hb⟩
  clear h hm hb
  go_enter Try.func17, Try.ntmps17
  go_wp2_with fail
  go_loopw [8, 5] (fun iv _ wr => ∃ (i : Nat), i ≤ m ∧ iv = .int .i64 (i : Int) ∧ w = wr ∧ ∀ j x, j < i → rs[j]? = some x → x.n ≠ n) (fun iv _ _ => m - (intOf iv).toNat)
  case atStart => exact ⟨0, Nat.zero_le _, rfl, rfl, fun j x h => absurd h (Nat.not_lt_zero j)⟩
  case round =>
    obtain ⟨i, hi, rfl, rfl, hno⟩ := hrel
    have HI : Hid (∀ j x, j < i → rs[j]? = some x → x.n ≠ n) := hno
    clear hno
    have hilb : (i : Int) < 1000000000 := by have := HX.out.2.2; omega
    have ii0 : (0 : Int) ≤ (i : Int) := by omega
    by_cases hlt : i < m
    case neg =>
      have hii : ¬ (i : Int) < (m : Int) := by omega
      have HE : Hid (FiPost w rs n (.returned (.int .i64 (-1))) w) := ⟨-1, rfl, rfl, .inl ⟨rfl, fun x hx => by
        obtain ⟨j, hj⟩ := List.mem_iff_getElem?.1 hx
        exact HI.out j x (by have h1 := (List.getElem?_eq_some_iff.1 hj).1; have := HX.out.2.1; omega) hj⟩⟩
      go_wp2_with fail
      go_ret
      exact HE.out
    have hii : (i : Int) < (m : Int) := by omega
    obtain ⟨lb, lo, rfl, -, hce⟩ := HX.out.1.cells i (by rw [HX.out.2.1]; exact hlt)
    obtain ⟨x, hx⟩ : ∃ y, rs[i]? = some y := ⟨rs[i]'(by rw [HX.out.2.1]; exact hlt), List.getElem?_eq_getElem _⟩
    have HXI : Hid (rs[i]? = some x) := hx
    have m0 : w.cell? ⟨lb, lo + i * 3, none⟩ = some (.int .i64 x.n) := by
      have h1 := hce 0 (by decide)
      obtain ⟨hj, hx2⟩ := List.getElem?_eq_some_iff.1 hx
      rw [hx2] at h1
      exact h1
    clear hce hx
    by_cases hxn : x.n = n
    case pos =>
      have HE : Hid (FiPost w rs n (.returned (.int .i64 (i : Int))) w) := ⟨i, rfl, rfl, .inr ⟨i, x, rfl, HXI.out, hxn⟩⟩
      have hbq : (x.n == n) = true := by simp [hxn]
      clear hxn
      go_wp2_with fail
      go_ret
      exact HE.out
    have HG : Hid (∃ (i2 : Nat), i2 ≤ m ∧ Value.int .i64 (↑i + 1) = .int .i64 (i2 : Int) ∧ True ∧ ∀ j x, j < i2 → rs[j]? = some x → x.n ≠ n) := ⟨i + 1, by omega, by simp, trivial, fun j y hj hy => by
      by_cases c : j = i
      · subst c
        rw [HXI.out] at hy
        cases hy
        exact hxn
      · exact HI.out j y (by omega) hy⟩
    have hbq : (x.n == n) = false := beq_false_of_ne hxn
    clear hxn
    go_wp2_with fail
    refine ⟨HG.out, ?_⟩
    simp [intOf]
    omega
end Go.Proofs.Ythhdpfgepjmgkaa.Dj
