/- A new stream, how much waits, lists of messages that are the same. -/
import Derived.Test.YtjnjjkhdmdjaeaaPxG
import Derived.Test.YtjnjjkhdmdjaeaaPwS
namespace Go.Proofs.Ytjnjjkhdmdjaeaa.Pv
open Go.ChangeShapes Go.WideShapes Go.ChangeAt Go.RowKit Go.Joins Go.Proofs.Ytjnjjkhdmdjaeaa.PM Go.Proofs.Ytjnjjkhdmdjaeaa.Ask Go.Proofs.Ytjnjjkhdmdjaeaa.Ge
set_option linter.unusedVariables false

theorem mat_run {o : Oper} (x : Operand) (ho : o.op = .load 31 x) {ρ : Operand → Value} {b k : Nat} (hx : ρ x = .pointer (some ⟨b, k, none⟩)) {m : Ms} {s : Sl} {W : World} (h : ∀ j, j < 17 → W.cell? ⟨b, k + j, none⟩ = (msL m s)[j]?) : (execOp ρ o).run Try.prog W = .ok (.value (msV m s)) W := by
  have c0 : W.cell? ⟨b, k, none⟩ = _ := h 0 (by decide)
  have c1 : W.cell? ⟨b, k + 1, none⟩ = _ := h 1 (by decide)
  have c2 : W.cell? ⟨b, k + 2, none⟩ = _ := h 2 (by decide)
  have c3 : W.cell? ⟨b, k + 3, none⟩ = _ := h 3 (by decide)
  have c4 : W.cell? ⟨b, k + 4, none⟩ = _ := h 4 (by decide)
  have c5 : W.cell? ⟨b, k + 5, none⟩ = _ := h 5 (by decide)
  have c6 : W.cell? ⟨b, k + 6, none⟩ = _ := h 6 (by decide)
  have c7 : W.cell? ⟨b, k + 7, none⟩ = _ := h 7 (by decide)
  have c8 : W.cell? ⟨b, k + 8, none⟩ = _ := h 8 (by decide)
  have c9 : W.cell? ⟨b, k + 9, none⟩ = _ := h 9 (by decide)
  have c10 : W.cell? ⟨b, k + 10, none⟩ = _ := h 10 (by decide)
  have c11 : W.cell? ⟨b, k + 11, none⟩ = _ := h 11 (by decide)
  have c12 : W.cell? ⟨b, k + 12, none⟩ = _ := h 12 (by decide)
  have c13 : W.cell? ⟨b, k + 13, none⟩ = _ := h 13 (by decide)
  have c14 : W.cell? ⟨b, k + 14, none⟩ = _ := h 14 (by decide)
  have c15 : W.cell? ⟨b, k + 15, none⟩ = _ := h 15 (by decide)
  have c16 : W.cell? ⟨b, k + 16, none⟩ = _ := h 16 (by decide)
  simp only [msL, List.getElem?_cons_zero, List.getElem?_cons_succ] at c0 c1 c2 c3 c4 c5 c6 c7 c8 c9 c10 c11 c12 c13 c14 c15 c16
  unfold execOp msV
  rw [ho]
  simp [go_sem, hx, c0, c1, c2, c3, c4, c5, c6, c7, c8, c9, c10, c11, c12, c13, c14, c15, c16]
/-- a list's message is loaded -/
theorem list_mat {ops : Array Oper} {rest : List Oper} {o : Oper} {ac : Act} {Q : Exit → Act → World → Prop} {W : World} (hgd : o.guard = none) (x : Operand) (ho : o.op = .load 31 x) {b k : Nat} {m : Ms} {s : Sl} (hx : ac.eval x = .pointer (some ⟨b, k, none⟩)) (h : ∀ j, j < 17 → W.cell? ⟨b, k + j, none⟩ = (msL m s)[j]?)
    (kk : wpList Try.prog ops Q rest (ac.put o.dst (msV m s)) W) : wpList Try.prog ops Q (o :: rest) ac W := by
  refine wpList_plain hgd fun K hK => ?_
  unfold Oper.wp
  rw [mat_run x ho hx h]
  exact hK _ _ kk
/-- what stands in a list of messages -/
theorem lst17 {w : World} {a : Option Addr} {l : List (Ms × Sl)} (h : Gm.Lst E17 w a l) (i : Nat) (hi : i < l.length) : ∃ b o, a = some ⟨b, o, none⟩ ∧ b < w.heap.size ∧ ∀ j, j < 17 → w.cell? ⟨b, o + i * 17 + j, none⟩ = (msL l[i].1 l[i].2)[j]? := h.cells i hi
set_option maxRecDepth 100000 in
set_option maxHeartbeats 4000000 in
theorem new_any (w : World) :
    Calls Try.prog 16 #[] w fun e w' => e = .returned (.pointer (some ⟨w.heap.size, 0, none⟩)) ∧ (∀ N, w.heap.size < N → Stm N w' w.heap.size none 0 [] 0) ∧ Below w.heap.size w w' := by
  go_enter Try.func16, Try.ntmps16
  go_wp2_with fail
  go_ret
  refine ⟨rfl, fun N hN => ⟨World.alloc_heap_new w _, ?_, hN, (fun _ h => by cases h)⟩, (Below.refl _ w).alloc (Nat.le_refl _) _⟩
  exact OwnL.nil _ _ _
set_option maxRecDepth 100000 in
set_option maxHeartbeats 4000000 in
theorem waiting_any (N : Nat) (b : Nat) (a : Option Addr) (c : Nat) (x : List Nat) (f : Int) (w : World) (h : Stm N w b a c x f) :
    Calls Try.prog 20 #[.pointer (some ⟨b, 0, none⟩)] w fun e w' => e = .returned (.int .i64 (x.length : Int)) ∧ Below w.heap.size w w' := by
  have c0 := h.c0
  obtain ⟨n, hn⟩ : ∃ n, x.length = n := ⟨_, rfl⟩
  rw [hn] at c0 ⊢
  clear hn h
  go_enter Try.func20, Try.ntmps20
  go_wp2_with fail
  go_ret
  exact ⟨rfl, Below.refl _ _⟩
set_option maxRecDepth 100000 in
set_option maxHeartbeats 4000000 in
theorem all_any (l1 l2 : List (Ms × Sl)) (va vb : Option Addr) (n ca cb : Nat) (w : World) (h1 : Gm.Lst E17 w va l1) (h2 : Gm.Lst E17 w vb l2) (hn1 : l1.length = n) (hn2 : l2.length = n) (k1 : ∀ p ∈ l1, MOk w p.1 p.2) (k2 : ∀ p ∈ l2, MOk w p.1 p.2) (hs : l1.map (fun p => p.1) = l2.map (fun p => p.1)) :
    Calls Try.prog 19 #[.slice va n ca, .slice vb n cb] w fun e w' => e = .returned (.bool true) ∧ Below w.heap.size w w' := by
  have hsm : n ≤ 9223372036854775807 := by have := h1.small; omega
  have H1 : Hid (Gm.Lst E17 w va l1) := h1
  have H2 : Hid (Gm.Lst E17 w vb l2) := h2
  have HN1 : Hid (l1.length = n) := hn1
  have HN2 : Hid (l2.length = n) := hn2
  have HK1 : Hid (∀ p ∈ l1, MOk w p.1 p.2) := k1
  have HK2 : Hid (∀ p ∈ l2, MOk w p.1 p.2) := k2
  have HS : Hid (l1.map (fun p => p.1) = l2.map (fun p => p.1)) := hs
  clear h1 h2 hn1 hn2 k1 k2 hs
  go_enter Try.func19, Try.ntmps19
  go_wp2_with fail
  go_loopw [13] (fun iv wr => ∃ i : Nat, i ≤ n ∧ iv = .int .i64 (i : Int) ∧ Below w.heap.size w wr) (fun i _ => n - (intOf i).toNat)
  case atStart => exact ⟨0, by omega, rfl, Below.refl _ _⟩
  case round =>
    obtain ⟨i, hi, rfl, hb⟩ := hrel
    have HB : Hid (Below w.heap.size w wr) := hb
    clear hb
    by_cases hlt : i < n
    · have hil1 : i < l1.length := by rw [HN1.out]; exact hlt
      have hil2 : i < l2.length := by rw [HN2.out]; exact hlt
      obtain ⟨p, hp⟩ : ∃ p, l1[i] = p := ⟨_, rfl⟩
      obtain ⟨q, hq⟩ : ∃ q, l2[i] = q := ⟨_, rfl⟩
      have hpq : p.1 = q.1 := by
        have h5 : (l1.map (fun p => p.1))[i]? = (l2.map (fun p => p.1))[i]? := by rw [HS.out]
        rw [List.getElem?_map, List.getElem?_map, List.getElem?_eq_getElem hil1, List.getElem?_eq_getElem hil2, hp, hq] at h5
        simpa using h5
      obtain ⟨b1, o1, rfl, hb1, hc1⟩ := lst17 (H1.out.bel HB.out) i hil1
      obtain ⟨b2, o2, rfl, hb2, hc2⟩ := lst17 (H2.out.bel HB.out) i hil2
      rw [hp] at hc1
      rw [hq, ← hpq] at hc2
      have HC1 : Hid (∀ W', Below wr.heap.size wr W' → ∀ j, j < 17 → W'.cell? ⟨b1, o1 + i * 17 + j, none⟩ = (msL p.1 p.2)[j]?) := fun W' hW' j hj => (World.cell?_of_block (w := wr) (hW'.block b1 hb1)).trans (hc1 j hj)
      have HC2 : Hid (∀ W', Below wr.heap.size wr W' → ∀ j, j < 17 → W'.cell? ⟨b2, o2 + i * 17 + j, none⟩ = (msL p.1 q.2)[j]?) := fun W' hW' j hj => (World.cell?_of_block (w := wr) (hW'.block b2 hb2)).trans (hc2 j hj)
      have HM1 : Hid (∀ W', Below w.heap.size w W' → MOk W' p.1 p.2) := fun W' hW' => (HK1.out p (hp ▸ List.getElem_mem hil1)).bel hW'
      have HM2 : Hid (∀ W', Below w.heap.size w W' → MOk W' p.1 q.2) := fun W' hW' => by rw [hpq]; exact (HK2.out q (hq ▸ List.getElem_mem hil2)).bel hW'
      have hii : (i : Int) < (n : Int) := by omega
      have ii0 : (0 : Int) ≤ i := by omega
      clear hp hq hpq hc1 hc2
      go_upto_region 6 with fail
      have HD : Hid (Below wr.heap.size wr wr.drew) := drew_bel wr
      have HWD : Hid (Below w.heap.size w wr.drew) := HB.out.trans ((drew_bel wr).mono HB.out.size)
      refine wp_region_held_drew (S := fun W' => Below wr.heap.size wr W') (by kernel_rfl) HD.out (fun hHeld => ?_)
      clear hHeld
      obtain ⟨wD, hwD⟩ : ∃ wD, wr.drew = wD := ⟨_, rfl⟩
      rw [hwD] at HD HWD ⊢
      clear hwD
      · skip
        refine wpAnyH_take (i := 0) (v := .slice (some ⟨b1, o1, none⟩) n ca) rfl (by kernel_rfl) (by kernel_rfl) (by kernel_rfl) (fun _ _ _ h => h) (Or.inl ⟨by rfl, (fun W' hW' => by go_simp)⟩) HD.out ?_
        try simp only [Act.put, List.getElem_toArray, List.getElem_cons_zero, List.setIfInBounds_toArray, List.set_cons_zero, List.set_cons_succ]
        refine wpAnyH_take (i := 1) (v := .int .i64 (i : Int)) rfl (by kernel_rfl) (by kernel_rfl) (by kernel_rfl) (fun _ _ _ h => h) (Or.inl ⟨by rfl, (fun W' hW' => by go_simp)⟩) HD.out ?_
        try simp only [Act.put, List.getElem_toArray, List.getElem_cons_zero, List.getElem_cons_succ, List.setIfInBounds_toArray, List.set_cons_zero, List.set_cons_succ]
        refine wpAnyH_take (i := 2) (v := .pointer (some ⟨b1, o1 + i * 17, none⟩)) rfl (by kernel_rfl) (by kernel_rfl) (by kernel_rfl) (fun _ _ _ h => h) (Or.inl ⟨by rfl, (fun W' hW' => by go_simp)⟩) HD.out ?_
        try simp only [Act.put, List.getElem_toArray, List.getElem_cons_zero, List.getElem_cons_succ, List.setIfInBounds_toArray, List.set_cons_zero, List.set_cons_succ]
        refine wpAnyH_take (i := 3) (v := msV p.1 p.2) rfl (by kernel_rfl) (by kernel_rfl) (by kernel_rfl) (fun _ _ _ h => h) (Or.inl ⟨by rfl, (fun W' hW' => mat_run _ rfl rfl (HC1.out W' hW'))⟩) HD.out ?_
        try simp only [Act.put, List.getElem_toArray, List.getElem_cons_zero, List.getElem_cons_succ, List.setIfInBounds_toArray, List.set_cons_zero, List.set_cons_succ]
        refine wpAnyH_take (i := 4) (v := .slice (some ⟨b2, o2, none⟩) n cb) rfl (by kernel_rfl) (by kernel_rfl) (by kernel_rfl) (fun _ _ _ h => h) (Or.inl ⟨by rfl, (fun W' hW' => by go_simp)⟩) HD.out ?_
        try simp only [Act.put, List.getElem_toArray, List.getElem_cons_zero, List.getElem_cons_succ, List.setIfInBounds_toArray, List.set_cons_zero, List.set_cons_succ]
        refine wpAnyH_take (i := 5) (v := .int .i64 (i : Int)) rfl (by kernel_rfl) (by kernel_rfl) (by kernel_rfl) (fun _ _ _ h => h) (Or.inl ⟨by rfl, (fun W' hW' => by go_simp)⟩) HD.out ?_
        try simp only [Act.put, List.getElem_toArray, List.getElem_cons_zero, List.getElem_cons_succ, List.setIfInBounds_toArray, List.set_cons_zero, List.set_cons_succ]
        refine wpAnyH_take (i := 6) (v := .pointer (some ⟨b2, o2 + i * 17, none⟩)) rfl (by kernel_rfl) (by kernel_rfl) (by kernel_rfl) (fun _ _ _ h => h) (Or.inl ⟨by rfl, (fun W' hW' => by go_simp)⟩) HD.out ?_
        try simp only [Act.put, List.getElem_toArray, List.getElem_cons_zero, List.getElem_cons_succ, List.setIfInBounds_toArray, List.set_cons_zero, List.set_cons_succ]
        refine wpAnyH_take (i := 7) (v := msV p.1 q.2) rfl (by kernel_rfl) (by kernel_rfl) (by kernel_rfl) (fun _ _ _ h => h) (Or.inl ⟨by rfl, (fun W' hW' => mat_run _ rfl rfl (HC2.out W' hW'))⟩) HD.out ?_
        try simp only [Act.put, List.getElem_toArray, List.getElem_cons_zero, List.getElem_cons_succ, List.setIfInBounds_toArray, List.set_cons_zero, List.set_cons_succ]
        refine wpAnyH_ready (rs := [8]) (by kernel_rfl) (by simp) ?_
        refine AllReadyH.cons rfl (fun K' hK' => ?_) AllReadyH.nil
        go_simp
        refine (msame_any p.1 p.2 q.2 wD (HM1.out _ HWD.out) (HM2.out _ HWD.out)).mono ?_
        rintro e w2 ⟨rfl, hb2'⟩
        have HD2 : Hid (Below wr.heap.size wr w2) := HD.out.trans (hb2'.mono HD.out.size)
        have HW2 : Hid (Below w.heap.size w w2) := HWD.out.trans (hb2'.mono HWD.out.size)
        clear hb2'
        go_wp2_with fail
        refine hK'.out _ _ HD2.out (fun hHeld => ?_)
        clear hK' K' hHeld
        try simp only [Act.put, List.getElem_toArray, List.getElem_cons_zero, List.getElem_cons_succ, List.setIfInBounds_toArray, List.set_cons_zero, List.set_cons_succ]
        refine wpAnyH_take (i := 9) (v := .bool false) rfl (by kernel_rfl) (by kernel_rfl) (by kernel_rfl) (fun _ _ _ h => h) (Or.inl ⟨by rfl, (fun W' hW' => by go_simp)⟩) HD2.out ?_
        try simp only [Act.put, List.getElem_toArray, List.getElem_cons_zero, List.getElem_cons_succ, List.setIfInBounds_toArray, List.set_cons_zero, List.set_cons_succ]
        refine wpAnyH_done (by kernel_rfl) ?_ _
        go_wp2_with fail
        exact ⟨⟨i + 1, by omega, by simp, HW2.out⟩, by simp [intOf]; omega⟩
    · obtain rfl : i = n := by omega
      go_wp2_with fail
      go_ret
      exact ⟨rfl, HB.out⟩
end Go.Proofs.Ytjnjjkhdmdjaeaa.Pv
