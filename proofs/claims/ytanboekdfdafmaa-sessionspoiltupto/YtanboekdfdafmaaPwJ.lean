/- What follows behind a message's sum: readBody. -/
import Derived.Test.YtanboekdfdafmaaPwI
namespace Go.Proofs.Ytanboekdfdafmaa.Pv
open Go.ChangeShapes Go.WideShapes Go.ChangeAt Go.RowKit Go.Joins Go.Proofs.Ytanboekdfdafmaa.PM Go.Proofs.Ytanboekdfdafmaa.Ask Go.Proofs.Ytanboekdfdafmaa.Ge
set_option linter.unusedVariables false

theorem mo_zero (N : Nat) (w : World) (m : Ms) (hl : m.lost = []) (hh : m.hv = []) (hr : m.rt = rtZ) : MO N w m sZ := by
  refine ⟨by rw [hl]; exact OwnL.nil _ _ _, by rw [hh]; exact OwnL.nil _ _ _, by rw [hr]; exact ro_new _ _, dis5 (fun _ e => by cases e) (fun _ e => by cases e) (fun _ e => by cases e) (ro_new N w).d, (by rw [hl]; intro p hp; cases hp), (by rw [hh]; intro p hp; cases hp)⟩
theorem RbS.drew {w W : World} {bm bb be : Nat} {m : Ms} {s : Sl} {bv ev : Value} (h : RbS w bm bb be W m s bv ev) : RbS w bm bb be W.drew m s bv ev := ⟨h.mb, h.hb, h.he, h.bel.trans ((drew_bel W).mono h.bel.size)⟩
theorem RbS.kr {w W W' : World} {bm bb be br : Nat} {m : Ms} {s : Sl} {bv ev : Value} (h : RbS w bm bb be W m s bv ev) (k : Kr W br W') (h1 : ¬ bm = br) (h2 : ¬ bb = br) (h3 : ¬ be = br) (h4 : w.heap.size ≤ br) : RbS w bm bb be W' m s bv ev :=
  ⟨h.mb.blk (k.block bm h.mb.lt h1), (k.block bb (Array.getElem?_eq_some_iff.1 h.hb).1 h2).trans h.hb, (k.block be (Array.getElem?_eq_some_iff.1 h.he).1 h3).trans h.he, h.bel.trans (k.below h4 h.bel.size)⟩
theorem RbS.mset {w W : World} {bm bb be : Nat} {m m2 : Ms} {s s2 : Sl} {bv ev : Value} (h : RbS w bm bb be W m s bv ev) (h1 : ¬ bm = bb) (h2 : ¬ bm = be) (h4 : w.heap.size ≤ bm) (i : Nat) (v : Value) (he : (msL m s).toArray.setIfInBounds i v = (msL m2 s2).toArray) : RbS w bm bb be (W.setCell ⟨bm, i, none⟩ v) m2 s2 bv ev := by
  have k := Kr.set bm i W v
  exact ⟨h.mb.set i v he, (k.block bb (Array.getElem?_eq_some_iff.1 h.hb).1 (fun e => h1 e.symm)).trans h.hb, (k.block be (Array.getElem?_eq_some_iff.1 h.he).1 (fun e => h2 e.symm)).trans h.he, h.bel.trans (k.below h4 h.bel.size)⟩
set_option maxRecDepth 100000 in
set_option maxHeartbeats 16000000 in
theorem read3 (va : Option Addr) (n cap : Nat) (xs : List Nat) (hbig : n ≤ 100000) (w : World) (h : Pce w.heap.size w va n cap xs) :
    Calls Try.prog 73 #[.int .i64 3, .slice va n cap] w (RbPost w (readB 3 xs)) := by
  have H : Hid (Pce w.heap.size w va n cap xs) := h
  have HL : Hid (xs.length = n) := h.p.len
  have hmf : ∀ (fn : Fn) (first cap : Array Value) (w : World), (Instr.makeFunc fn first cap).run Try.prog w = .ok (.func fn first cap) w := fun _ _ _ _ => rfl
  clear h
  go_enter_defers Try.func73, Try.ntmps73
  go_upto_region 4 with fail
  obtain ⟨W, hW⟩ : ∃ W, (((w.alloc (Obj.cells #[.int .i64 3, .int .i64 0, .int .i64 0, .int .i64 0, .int .i64 0, .slice none 0 0, .slice none 0 0, .int .u32 0, .int .i64 0, .slice none 0 0, .int .i64 0, .int .i64 0, .int .i64 0, .int .u32 0, .slice none 0 0, .slice none 0 0, .int .i64 0] 54)).alloc (Obj.cells #[.slice va n cap] 32)).alloc (Obj.cells #[.int .i64 0] 59)).alloc (Obj.cells #[.slice va n cap] 127) = W := ⟨_, rfl⟩
  obtain ⟨hs, hr, hz⟩ := rb_start 3 va n cap xs w W H.out hW
  rw [hW]
  obtain ⟨M, hM⟩ : ∃ M, w.heap.size = M := ⟨_, rfl⟩
  obtain ⟨bm, hbm⟩ : ∃ b, w.heap.size = b := ⟨_, rfl⟩
  rw [hbm] at hs hr ⊢
  obtain ⟨bb, hbb⟩ : ∃ b, bm + 1 = b := ⟨_, rfl⟩
  rw [hbb] at hs hr ⊢
  obtain ⟨be, hbe⟩ : ∃ b, bb + 1 = b := ⟨_, rfl⟩
  rw [hbe] at hs hr ⊢
  obtain ⟨br, hbr⟩ : ∃ b, be + 1 = b := ⟨_, rfl⟩
  rw [hbr] at hr ⊢
  obtain ⟨m, hm⟩ : ∃ m, ({ ms0 with kind := 3 } : Ms) = m := ⟨_, rfl⟩
  have HMM : Hid (({ ms0 with kind := 3 } : Ms) = m) := hm
  have hs2 : RbS w bm bb be W m sZ (.slice va n cap) (.int .i64 0) := by rw [← hm]; exact hs
  have HS : Hid (RbS w bm bb be W m sZ (.slice va n cap) (.int .i64 0)) := hs2
  have hr2 : Rdr w.heap.size W br va n cap xs := by rw [hbm]; exact hr
  have HR : Hid (Rdr w.heap.size W br va n cap xs) := hr2
  have d1 : ¬ bm = bb := by omega
  have d2 : ¬ bm = be := by omega
  have d3 : ¬ bb = be := by omega
  have d4 : ¬ bm = br := by omega
  have d5 : ¬ bb = br := by omega
  have d6 : ¬ be = br := by omega
  have k1 : w.heap.size ≤ bm := by omega
  have k2 : w.heap.size ≤ bb := by omega
  have k3 : w.heap.size ≤ be := by omega
  have k4 : w.heap.size ≤ br := by omega
  clear hW hs hr hz hs2 hr2 hbm hbb hbe hbr hM hm M
  have HSE : Hid (RbS w bm bb be W m sZ (.slice va n cap) (.int .i64 0)) := HS.out
  have HQ : Hid (RbPost w (readB 3 xs) (.returned (.tuple #[msV m sZ, .slice va n cap, .int .i64 0])) W.drew) := by
    show RbPost _ _ _ _
    have e1 : readB 3 xs = some (m, xs) := by rw [← HMM.out]; rfl
    rw [e1]
    have hb := HSE.out.drew.bel
    exact ⟨sZ, va, n, cap, rfl, H.out.p.bel hb, mo_zero _ _ _ (by rw [← HMM.out]; rfl) (by rw [← HMM.out]; rfl) (by rw [← HMM.out]; rfl), hb⟩
  go_upto_region 12 with fail
  have HSD : Hid (RbS w bm bb be W.drew m sZ (.slice va n cap) (.int .i64 0)) := HSE.out.drew
  apply wp_meet
  case h1 =>
    refine wp_region_held_drew (S := fun W' => W' = W.drew) (by kernel_rfl) rfl (fun hHeld => ?_)
    refine wpAnyH_take (i := 0) (v := msV m sZ) rfl (by kernel_rfl) (by kernel_rfl) (by kernel_rfl) (fun _ _ _ h => by cases h.1) (Or.inl ⟨by rfl, (fun W' hW' => by subst hW'; exact mload_run _ rfl rfl HSD.out.mb)⟩) rfl ?_
    try simp only [Act.put, List.getElem_toArray, List.getElem_cons_zero, List.setIfInBounds_toArray, List.set_cons_zero, List.set_cons_succ]
    refine wpAnyH_ready (rs := [1, 2]) (by kernel_rfl) (by simp) ?_
    refine AllReadyH.cons rfl (fun K hK => step_val (by rfl) (cload_run _ rfl rfl HSD.out.hb) (hK.out _ _ rfl (fun _ => ?_))) (AllReadyH.cons rfl (fun K hK => step_skip (by rfl) (mstore_run _ _ rfl rfl rfl HSD.out.mb) (hK.out _ _ rfl (fun _ => ?_))) AllReadyH.nil)
    case refine_1 =>
      try simp only [Act.put, List.getElem_toArray, List.getElem_cons_zero, List.getElem_cons_succ, List.setIfInBounds_toArray, List.set_cons_zero, List.set_cons_succ]
      refine wpAnyH_ready (rs := [2]) (by kernel_rfl) (by simp) ?_
      refine AllReadyH.cons rfl (fun K hK => step_skip (by rfl) (mstore_run _ _ rfl rfl rfl HSD.out.mb) (hK.out _ _ rfl (fun _ => ?_))) AllReadyH.nil
      try simp only [Act.put, List.getElem_toArray, List.getElem_cons_zero, List.getElem_cons_succ]
      refine wpAnyH_ready (rs := [3]) (by kernel_rfl) (by simp) ?_
      refine AllReadyH.cons rfl (fun K hK => step_skip (by rfl) (cstore_run _ _ rfl rfl rfl HSD.out.hb) (hK.out _ _ rfl (fun _ => ?_))) AllReadyH.nil
      try simp only [Act.put, List.getElem_toArray, List.getElem_cons_zero, List.getElem_cons_succ]
      refine wpAnyH_ready (rs := [4]) (by kernel_rfl) (by simp) ?_
      refine AllReadyH.cons rfl (fun K hK => step_skip (by rfl) (estore_run _ _ rfl rfl rfl HSD.out.he) (hK.out _ _ rfl (fun _ => ?_))) AllReadyH.nil
      try simp only [Act.put, List.getElem_toArray, List.getElem_cons_zero, List.getElem_cons_succ]
      refine wpAnyH_done (by kernel_rfl) ?_ _
      exact ⟨rfl, rfl, rfl⟩
    case refine_2 =>
      try simp only [Act.put, List.getElem_toArray, List.getElem_cons_zero, List.getElem_cons_succ]
      refine wpAnyH_ready (rs := [1]) (by kernel_rfl) (by simp) ?_
      refine AllReadyH.cons rfl (fun K hK => step_val (by rfl) (cload_run _ rfl rfl HSD.out.hb) (hK.out _ _ rfl (fun _ => ?_))) AllReadyH.nil
      try simp only [Act.put, List.getElem_toArray, List.getElem_cons_zero, List.getElem_cons_succ, List.setIfInBounds_toArray, List.set_cons_zero, List.set_cons_succ]
      refine wpAnyH_ready (rs := [3]) (by kernel_rfl) (by simp) ?_
      refine AllReadyH.cons rfl (fun K hK => step_skip (by rfl) (cstore_run _ _ rfl rfl rfl HSD.out.hb) (hK.out _ _ rfl (fun _ => ?_))) AllReadyH.nil
      try simp only [Act.put, List.getElem_toArray, List.getElem_cons_zero, List.getElem_cons_succ]
      refine wpAnyH_ready (rs := [4]) (by kernel_rfl) (by simp) ?_
      refine AllReadyH.cons rfl (fun K hK => step_skip (by rfl) (estore_run _ _ rfl rfl rfl HSD.out.he) (hK.out _ _ rfl (fun _ => ?_))) AllReadyH.nil
      try simp only [Act.put, List.getElem_toArray, List.getElem_cons_zero, List.getElem_cons_succ]
      refine wpAnyH_done (by kernel_rfl) ?_ _
      exact ⟨rfl, rfl, rfl⟩
  case h2 =>
    obtain ⟨wD, hwD⟩ : ∃ wD, W.drew = wD := ⟨_, rfl⟩
    rw [hwD] at HSD HQ ⊢
    clear hwD HSE
    go_wp2_with fail
    refine leaves_cons (f := 77) (args := #[.pointer (some ⟨bm, 0, none⟩), .pointer (some ⟨bb, 0, none⟩), .pointer (some ⟨be, 0, none⟩)]) (by simp) (by simp [go_sem]) ?_
    refine (catch_idle ⟨bm, 0, none⟩ ⟨bb, 0, none⟩ ⟨be, 0, none⟩ _).mono ?_
    rintro e u' w'' ⟨rfl, rfl, hw⟩
    rw [hw]
    clear hw w''
    exact ⟨_, rb_res HSD.out rfl rfl rfl, HQ.out⟩
set_option maxRecDepth 100000 in
set_option maxHeartbeats 16000000 in
theorem read4 (va : Option Addr) (n cap : Nat) (xs : List Nat) (hbig : n ≤ 100000) (w : World) (h : Pce w.heap.size w va n cap xs) :
    Calls Try.prog 73 #[.int .i64 4, .slice va n cap] w (RbPost w (readB 4 xs)) := by
  have H : Hid (Pce w.heap.size w va n cap xs) := h
  have HL : Hid (xs.length = n) := h.p.len
  have hmf : ∀ (fn : Fn) (first cap : Array Value) (w : World), (Instr.makeFunc fn first cap).run Try.prog w = .ok (.func fn first cap) w := fun _ _ _ _ => rfl
  clear h
  go_enter_defers Try.func73, Try.ntmps73
  go_upto_region 4 with fail
  obtain ⟨W, hW⟩ : ∃ W, (((w.alloc (Obj.cells #[.int .i64 4, .int .i64 0, .int .i64 0, .int .i64 0, .int .i64 0, .slice none 0 0, .slice none 0 0, .int .u32 0, .int .i64 0, .slice none 0 0, .int .i64 0, .int .i64 0, .int .i64 0, .int .u32 0, .slice none 0 0, .slice none 0 0, .int .i64 0] 54)).alloc (Obj.cells #[.slice va n cap] 32)).alloc (Obj.cells #[.int .i64 0] 59)).alloc (Obj.cells #[.slice va n cap] 127) = W := ⟨_, rfl⟩
  obtain ⟨hs, hr, hz⟩ := rb_start 4 va n cap xs w W H.out hW
  rw [hW]
  obtain ⟨M, hM⟩ : ∃ M, w.heap.size = M := ⟨_, rfl⟩
  obtain ⟨bm, hbm⟩ : ∃ b, w.heap.size = b := ⟨_, rfl⟩
  rw [hbm] at hs hr ⊢
  obtain ⟨bb, hbb⟩ : ∃ b, bm + 1 = b := ⟨_, rfl⟩
  rw [hbb] at hs hr ⊢
  obtain ⟨be, hbe⟩ : ∃ b, bb + 1 = b := ⟨_, rfl⟩
  rw [hbe] at hs hr ⊢
  obtain ⟨br, hbr⟩ : ∃ b, be + 1 = b := ⟨_, rfl⟩
  rw [hbr] at hr ⊢
  obtain ⟨m, hm⟩ : ∃ m, ({ ms0 with kind := 4 } : Ms) = m := ⟨_, rfl⟩
  have HMM : Hid (({ ms0 with kind := 4 } : Ms) = m) := hm
  have hs2 : RbS w bm bb be W m sZ (.slice va n cap) (.int .i64 0) := by rw [← hm]; exact hs
  have HS : Hid (RbS w bm bb be W m sZ (.slice va n cap) (.int .i64 0)) := hs2
  have hr2 : Rdr w.heap.size W br va n cap xs := by rw [hbm]; exact hr
  have HR : Hid (Rdr w.heap.size W br va n cap xs) := hr2
  have d1 : ¬ bm = bb := by omega
  have d2 : ¬ bm = be := by omega
  have d3 : ¬ bb = be := by omega
  have d4 : ¬ bm = br := by omega
  have d5 : ¬ bb = br := by omega
  have d6 : ¬ be = br := by omega
  have k1 : w.heap.size ≤ bm := by omega
  have k2 : w.heap.size ≤ bb := by omega
  have k3 : w.heap.size ≤ be := by omega
  have k4 : w.heap.size ≤ br := by omega
  clear hW hs hr hz hs2 hr2 hbm hbb hbe hbr hM hm M
  by_cases h1 : 1 ≤ n
  · go_wp2_with fail
    refine (rnum_yes w.heap.size br va n cap xs 1 h1 (by decide) W HR.out).mono ?_
    rintro e W1 ⟨a1, c1, rfl, hr1, hk1⟩
    obtain ⟨q, hq⟩ : ∃ q, num (xs.take 1) = q := ⟨_, rfl⟩
    rw [hq]
    have hs1 : RbS w bm bb be W1 m sZ (.slice va n cap) (.int .i64 0) := HS.out.kr hk1 d4 d5 d6 k4
    obtain ⟨W2, hW2⟩ : ∃ W2, W1.setCell ⟨bm, 4, none⟩ (.int .i64 (q : Int)) = W2 := ⟨_, rfl⟩
    have HSE : Hid (RbS w bm bb be W2 { m with code := (q : Int) } sZ (.slice va n cap) (.int .i64 0)) := by
      rw [← hW2]
      exact hs1.mset d1 d2 k1 4 _ (by simp [msL])
    have g4 := hs1.mb.fro 4
    have c4 : W1.cell? ⟨bm, 4, none⟩ = some (.int .i64 m.code) := hs1.mb.cell 4
    obtain ⟨m2, hm2⟩ : ∃ m2, ({ m with code := (q : Int) } : Ms) = m2 := ⟨_, rfl⟩
    rw [hm2] at HSE
    have HQ : Hid (RbPost w (readB 4 xs) (.returned (.tuple #[msV m2 sZ, .slice va n cap, .int .i64 0])) W2.drew) := by
      show RbPost _ _ _ _
      have e1 : readB 4 xs = some (m2, xs) := by
        unfold readB
        rw [if_neg (by decide), if_neg (by decide), if_pos rfl, if_pos (by rw [HL.out]; exact h1), hq, ← hm2, ← HMM.out]
      rw [e1]
      have hb := HSE.out.drew.bel
      exact ⟨sZ, va, n, cap, rfl, H.out.p.bel hb, mo_zero _ _ _ (by rw [← hm2, ← HMM.out]; rfl) (by rw [← hm2, ← HMM.out]; rfl) (by rw [← hm2, ← HMM.out]; rfl), hb⟩
    have HW2 : Hid (W1.setCell ⟨bm, 4, none⟩ (.int .i64 (q : Int)) = W2) := hW2
    clear hr1 hk1 hs1 hq hW2 hm2 HS HR HMM
    go_upto_region 12 with fail
    rw [HW2.out]
    clear HW2 g4 c4
    have HSD : Hid (RbS w bm bb be W2.drew m2 sZ (.slice va n cap) (.int .i64 0)) := HSE.out.drew
    apply wp_meet
    case h1 =>
      refine wp_region_held_drew (S := fun W' => W' = W2.drew) (by kernel_rfl) rfl (fun hHeld => ?_)
      refine wpAnyH_take (i := 0) (v := msV m2 sZ) rfl (by kernel_rfl) (by kernel_rfl) (by kernel_rfl) (fun _ _ _ h => by cases h.1) (Or.inl ⟨by rfl, (fun W' hW' => by subst hW'; exact mload_run _ rfl rfl HSD.out.mb)⟩) rfl ?_
      try simp only [Act.put, List.getElem_toArray, List.getElem_cons_zero, List.setIfInBounds_toArray, List.set_cons_zero, List.set_cons_succ]
      refine wpAnyH_ready (rs := [1, 2]) (by kernel_rfl) (by simp) ?_
      refine AllReadyH.cons rfl (fun K hK => step_val (by rfl) (cload_run _ rfl rfl HSD.out.hb) (hK.out _ _ rfl (fun _ => ?_))) (AllReadyH.cons rfl (fun K hK => step_skip (by rfl) (mstore_run _ _ rfl rfl rfl HSD.out.mb) (hK.out _ _ rfl (fun _ => ?_))) AllReadyH.nil)
      case refine_1 =>
        try simp only [Act.put, List.getElem_toArray, List.getElem_cons_zero, List.getElem_cons_succ, List.setIfInBounds_toArray, List.set_cons_zero, List.set_cons_succ]
        refine wpAnyH_ready (rs := [2]) (by kernel_rfl) (by simp) ?_
        refine AllReadyH.cons rfl (fun K hK => step_skip (by rfl) (mstore_run _ _ rfl rfl rfl HSD.out.mb) (hK.out _ _ rfl (fun _ => ?_))) AllReadyH.nil
        try simp only [Act.put, List.getElem_toArray, List.getElem_cons_zero, List.getElem_cons_succ]
        refine wpAnyH_ready (rs := [3]) (by kernel_rfl) (by simp) ?_
        refine AllReadyH.cons rfl (fun K hK => step_skip (by rfl) (cstore_run _ _ rfl rfl rfl HSD.out.hb) (hK.out _ _ rfl (fun _ => ?_))) AllReadyH.nil
        try simp only [Act.put, List.getElem_toArray, List.getElem_cons_zero, List.getElem_cons_succ]
        refine wpAnyH_ready (rs := [4]) (by kernel_rfl) (by simp) ?_
        refine AllReadyH.cons rfl (fun K hK => step_skip (by rfl) (estore_run _ _ rfl rfl rfl HSD.out.he) (hK.out _ _ rfl (fun _ => ?_))) AllReadyH.nil
        try simp only [Act.put, List.getElem_toArray, List.getElem_cons_zero, List.getElem_cons_succ]
        refine wpAnyH_done (by kernel_rfl) ?_ _
        exact ⟨rfl, rfl, rfl⟩
      case refine_2 =>
        try simp only [Act.put, List.getElem_toArray, List.getElem_cons_zero, List.getElem_cons_succ]
        refine wpAnyH_ready (rs := [1]) (by kernel_rfl) (by simp) ?_
        refine AllReadyH.cons rfl (fun K hK => step_val (by rfl) (cload_run _ rfl rfl HSD.out.hb) (hK.out _ _ rfl (fun _ => ?_))) AllReadyH.nil
        try simp only [Act.put, List.getElem_toArray, List.getElem_cons_zero, List.getElem_cons_succ, List.setIfInBounds_toArray, List.set_cons_zero, List.set_cons_succ]
        refine wpAnyH_ready (rs := [3]) (by kernel_rfl) (by simp) ?_
        refine AllReadyH.cons rfl (fun K hK => step_skip (by rfl) (cstore_run _ _ rfl rfl rfl HSD.out.hb) (hK.out _ _ rfl (fun _ => ?_))) AllReadyH.nil
        try simp only [Act.put, List.getElem_toArray, List.getElem_cons_zero, List.getElem_cons_succ]
        refine wpAnyH_ready (rs := [4]) (by kernel_rfl) (by simp) ?_
        refine AllReadyH.cons rfl (fun K hK => step_skip (by rfl) (estore_run _ _ rfl rfl rfl HSD.out.he) (hK.out _ _ rfl (fun _ => ?_))) AllReadyH.nil
        try simp only [Act.put, List.getElem_toArray, List.getElem_cons_zero, List.getElem_cons_succ]
        refine wpAnyH_done (by kernel_rfl) ?_ _
        exact ⟨rfl, rfl, rfl⟩
    case h2 =>
      obtain ⟨wD, hwD⟩ : ∃ wD, W2.drew = wD := ⟨_, rfl⟩
      rw [hwD] at HSD HQ ⊢
      clear hwD HSE
      go_wp2_with fail
      refine leaves_cons (f := 77) (args := #[.pointer (some ⟨bm, 0, none⟩), .pointer (some ⟨bb, 0, none⟩), .pointer (some ⟨be, 0, none⟩)]) (by simp) (by simp [go_sem]) ?_
      refine (catch_idle ⟨bm, 0, none⟩ ⟨bb, 0, none⟩ ⟨be, 0, none⟩ _).mono ?_
      rintro e u' w'' ⟨rfl, rfl, hw⟩
      rw [hw]
      clear hw w''
      exact ⟨_, rb_res HSD.out rfl rfl rfl, HQ.out⟩
  · go_wp2_with fail
    refine (rnum_no w.heap.size br va n cap xs 1 (by omega) W HR.out).mono ?_
    rintro e w1 ⟨rfl, hw1⟩
    rw [hw1]
    clear hw1 w1
    have HSX : Hid (RbS w bm bb be W m sZ (.slice va n cap) (.int .i64 0)) := HS.out
    obtain ⟨Z, hZ, hsz⟩ := rb_zero HSX.out d1 d2 d3 k1 k2 k3
    have HSZ : Hid (RbS w bm bb be Z ms0 sZ (.slice none 0 0) (.int .i64 4)) := hsz
    have HCP := catch_pan bm bb be W Z m sZ (.slice va n cap) (.int .i64 0) HSX.out.mb HSX.out.hb HSX.out.he d1 d2 d3 hZ
    have HQ : Hid (RbPost w (readB 4 xs) (.returned (.tuple #[msV ms0 sZ, .slice none 0 0, .int .i64 4])) Z) := by
      show RbPost _ _ _ _
      rw [show readB 4 xs = none from by unfold readB; rw [if_neg (by decide), if_neg (by decide), if_pos rfl, if_neg (by rw [HL.out]; exact h1)]]
      exact ⟨rfl, hsz.bel⟩
    clear hZ hsz HSX
    unfold pan
    go_wp2_with fail
    refine leaves_cons (f := 77) (args := #[.pointer (some ⟨bm, 0, none⟩), .pointer (some ⟨bb, 0, none⟩), .pointer (some ⟨be, 0, none⟩)]) (by simp) (by simp [go_sem]) ?_
    refine HCP.mono ?_
    rintro e u' w'' ⟨rfl, rfl, hw⟩
    rw [hw]
    clear hw w''
    exact ⟨_, rb_res HSZ.out rfl rfl rfl, HQ.out⟩
end Go.Proofs.Ytanboekdfdafmaa.Pv
