/- A new stream, how much waits, lists of messages that are the same. Pieces of a stream, in plain words, and what a round leaves. Sessions: what is known of the messages that come. -/
import Derived.Test.YtanboekdfdafmaaMgE
import Derived.Test.YtanboekdfdafmaaMgB
namespace Go.Proofs.Ytanboekdfdafmaa.Pv
open Go.ChangeShapes Go.WideShapes Go.ChangeAt Go.RowKit Go.Joins Go.Proofs.Ytanboekdfdafmaa.PM Go.Proofs.Ytanboekdfdafmaa.Ask Go.Proofs.Ytanboekdfdafmaa.Ge
set_option linter.unusedVariables false

theorem mat_run {o : Oper} (x : Operand) (ho : o.op = .load 54 x) {ρ : Operand → Value} {b k : Nat} (hx : ρ x = .pointer (some ⟨b, k, none⟩)) {m : Ms} {s : Sl} {W : World} (h : ∀ j, j < 17 → W.cell? ⟨b, k + j, none⟩ = (msL m s)[j]?) : (execOp ρ o).run Try.prog W = .ok (.value (msV m s)) W := by
  have c0 : W.cell? ⟨b, k, none⟩ = _ := h 0 (by decide)
  have c1 : W.cell? ⟨b, k + 1, none⟩ = _ := h 1 (by decide)
  have c2 : W.cell? ⟨b, k + 2, none⟩ = _ := h 2 (by decide)
  have c3 : W.cell? ⟨b, k + 3, none⟩ = _ := h 3 (by decide)
  have c4 : W.cell? ⟨b, k + 4, none⟩ = _ := h 4 (by decide)
  have c5 : W.cell? ⟨b, k + 5, none⟩ = _ := h 5 (by decide)
  have c6 : W.cell? ⟨b, k + 6, none⟩ = _ := h 6 (by decide)
  have c7 : W.cell? ⟨b, k + 7, none⟩ = _ := h 7 (by decide)
  have c8 : W.cell? ⟨b, k + 8, none⟩ = _ := h 8 (by decide)
  have c9 : W.cell? ⟨b, k + 9, none⟩ = _ := h 9 (by decide)
  have c10 : W.cell? ⟨b, k + 10, none⟩ = _ := h 10 (by decide)
  have c11 : W.cell? ⟨b, k + 11, none⟩ = _ := h 11 (by decide)
  have c12 : W.cell? ⟨b, k + 12, none⟩ = _ := h 12 (by decide)
  have c13 : W.cell? ⟨b, k + 13, none⟩ = _ := h 13 (by decide)
  have c14 : W.cell? ⟨b, k + 14, none⟩ = _ := h 14 (by decide)
  have c15 : W.cell? ⟨b, k + 15, none⟩ = _ := h 15 (by decide)
  have c16 : W.cell? ⟨b, k + 16, none⟩ = _ := h 16 (by decide)
  simp only [msL, List.getElem?_cons_zero, List.getElem?_cons_succ] at c0 c1 c2 c3 c4 c5 c6 c7 c8 c9 c10 c11 c12 c13 c14 c15 c16
  unfold execOp msV
  rw [ho]
  simp [go_sem, hx, c0, c1, c2, c3, c4, c5, c6, c7, c8, c9, c10, c11, c12, c13, c14, c15, c16]
/-- a list's message is loaded -/
theorem list_mat {ops : Array Oper} {rest : List Oper} {o : Oper} {ac : Act} {Q : Exit → Act → World → Prop} {W : World} (hgd : o.guard = none) (x : Operand) (ho : o.op = .load 54 x) {b k : Nat} {m : Ms} {s : Sl} (hx : ac.eval x = .pointer (some ⟨b, k, none⟩)) (h : ∀ j, j < 17 → W.cell? ⟨b, k + j, none⟩ = (msL m s)[j]?)
    (kk : wpList Try.prog ops Q rest (ac.put o.dst (msV m s)) W) : wpList Try.prog ops Q (o :: rest) ac W := by
  refine wpList_plain hgd fun K hK => ?_
  unfold Oper.wp
  rw [mat_run x ho hx h]
  exact hK _ _ kk
/-- what stands in a list of messages -/
theorem lst17 {w : World} {a : Option Addr} {l : List (Ms × Sl)} (h : Gm.Lst E17 w a l) (i : Nat) (hi : i < l.length) : ∃ b o, a = some ⟨b, o, none⟩ ∧ b < w.heap.size ∧ ∀ j, j < 17 → w.cell? ⟨b, o + i * 17 + j, none⟩ = (msL l[i].1 l[i].2)[j]? := h.cells i hi
set_option maxRecDepth 100000 in
set_option maxHeartbeats 4000000 in
theorem new_any (w : World) :
    Calls Try.prog 21 #[] w fun e w' => e = .returned (.pointer (some ⟨w.heap.size, 0, none⟩)) ∧ (∀ N, w.heap.size < N → Stm N w' w.heap.size none 0 [] 0) ∧ Below w.heap.size w w' := by
  go_enter Try.func21, Try.ntmps21
  go_wp2_with fail
  go_ret
  refine ⟨rfl, fun N hN => ⟨World.alloc_heap_new w _, ?_, hN, (fun _ h => by cases h)⟩, (Below.refl _ w).alloc (Nat.le_refl _) _⟩
  exact OwnL.nil _ _ _
set_option maxRecDepth 100000 in
set_option maxHeartbeats 4000000 in
theorem all_any (l1 l2 : List (Ms × Sl)) (va vb : Option Addr) (n ca cb : Nat) (w : World) (h1 : Gm.Lst E17 w va l1) (h2 : Gm.Lst E17 w vb l2) (hn1 : l1.length = n) (hn2 : l2.length = n) (k1 : ∀ p ∈ l1, MOk w p.1 p.2) (k2 : ∀ p ∈ l2, MOk w p.1 p.2) (hs : l1.map (fun p => p.1) = l2.map (fun p => p.1)) :
    Calls Try.prog 16 #[.slice va n ca, .slice vb n cb] w fun e w' => e = .returned (.bool true) ∧ Below w.heap.size w w' := by
  have hsm : n ≤ 9223372036854775807 := by have := h1.small; omega
  have H1 : Hid (Gm.Lst E17 w va l1) := h1
  have H2 : Hid (Gm.Lst E17 w vb l2) := h2
  have HN1 : Hid (l1.length = n) := hn1
  have HN2 : Hid (l2.length = n) := hn2
  have HK1 : Hid (∀ p ∈ l1, MOk w p.1 p.2) := k1
  have HK2 : Hid (∀ p ∈ l2, MOk w p.1 p.2) := k2
  have HS : Hid (l1.map (fun p => p.1) = l2.map (fun p => p.1)) := hs
  clear h1 h2 hn1 hn2 k1 k2 hs
  go_enter Try.func16, Try.ntmps16
  go_wp2_with fail
  go_loopw [13] (fun iv wr => ∃ i : Nat, i ≤ n ∧ iv = .int .i64 (i : Int) ∧ Below w.heap.size w wr) (fun i _ => n - (intOf i).toNat)
  case atStart => exact ⟨0, by omega, rfl, Below.refl _ _⟩
  case round =>
    obtain ⟨i, hi, rfl, hb⟩ := hrel
    have HB : Hid (Below w.heap.size w wr) := hb
    clear hb
    by_cases hlt : i < n
    · have hil1 : i < l1.length := by rw [HN1.out]; exact hlt
      have hil2 : i < l2.length := by rw [HN2.out]; exact hlt
      obtain ⟨p, hp⟩ : ∃ p, l1[i] = p := ⟨_, rfl⟩
      obtain ⟨q, hq⟩ : ∃ q, l2[i] = q := ⟨_, rfl⟩
      have hpq : p.1 = q.1 := by
        have h5 : (l1.map (fun p => p.1))[i]? = (l2.map (fun p => p.1))[i]? := by rw [HS.out]
        rw [List.getElem?_map, List.getElem?_map, List.getElem?_eq_getElem hil1, List.getElem?_eq_getElem hil2, hp, hq] at h5
        simpa using h5
      obtain ⟨b1, o1, rfl, hb1, hc1⟩ := lst17 (H1.out.bel HB.out) i hil1
      obtain ⟨b2, o2, rfl, hb2, hc2⟩ := lst17 (H2.out.bel HB.out) i hil2
      rw [hp] at hc1
      rw [hq, ← hpq] at hc2
      have HC1 : Hid (∀ W', Below wr.heap.size wr W' → ∀ j, j < 17 → W'.cell? ⟨b1, o1 + i * 17 + j, none⟩ = (msL p.1 p.2)[j]?) := fun W' hW' j hj => (World.cell?_of_block (w := wr) (hW'.block b1 hb1)).trans (hc1 j hj)
      have HC2 : Hid (∀ W', Below wr.heap.size wr W' → ∀ j, j < 17 → W'.cell? ⟨b2, o2 + i * 17 + j, none⟩ = (msL p.1 q.2)[j]?) := fun W' hW' j hj => (World.cell?_of_block (w := wr) (hW'.block b2 hb2)).trans (hc2 j hj)
      have HM1 : Hid (∀ W', Below w.heap.size w W' → MOk W' p.1 p.2) := fun W' hW' => (HK1.out p (hp ▸ List.getElem_mem hil1)).bel hW'
      have HM2 : Hid (∀ W', Below w.heap.size w W' → MOk W' p.1 q.2) := fun W' hW' => by rw [hpq]; exact (HK2.out q (hq ▸ List.getElem_mem hil2)).bel hW'
      have hii : (i : Int) < (n : Int) := by omega
      have ii0 : (0 : Int) ≤ i := by omega
      clear hp hq hpq hc1 hc2
      go_upto_region 6 with fail
      have HD : Hid (Below wr.heap.size wr wr.drew) := drew_bel wr
      have HWD : Hid (Below w.heap.size w wr.drew) := HB.out.trans ((drew_bel wr).mono HB.out.size)
      refine wp_region_held_drew (S := fun W' => Below wr.heap.size wr W') (by kernel_rfl) HD.out (fun hHeld => ?_)
      clear hHeld
      obtain ⟨wD, hwD⟩ : ∃ wD, wr.drew = wD := ⟨_, rfl⟩
      rw [hwD] at HD HWD ⊢
      clear hwD
      · skip
        refine wpAnyH_take (i := 0) (v := .slice (some ⟨b1, o1, none⟩) n ca) rfl (by kernel_rfl) (by kernel_rfl) (by kernel_rfl) (fun _ _ _ h => h) (Or.inl ⟨by rfl, (fun W' hW' => by go_simp)⟩) HD.out ?_
        try simp only [Act.put, List.getElem_toArray, List.getElem_cons_zero, List.setIfInBounds_toArray, List.set_cons_zero, List.set_cons_succ]
        refine wpAnyH_take (i := 1) (v := .int .i64 (i : Int)) rfl (by kernel_rfl) (by kernel_rfl) (by kernel_rfl) (fun _ _ _ h => h) (Or.inl ⟨by rfl, (fun W' hW' => by go_simp)⟩) HD.out ?_
        try simp only [Act.put, List.getElem_toArray, List.getElem_cons_zero, List.getElem_cons_succ, List.setIfInBounds_toArray, List.set_cons_zero, List.set_cons_succ]
        refine wpAnyH_take (i := 2) (v := .pointer (some ⟨b1, o1 + i * 17, none⟩)) rfl (by kernel_rfl) (by kernel_rfl) (by kernel_rfl) (fun _ _ _ h => h) (Or.inl ⟨by rfl, (fun W' hW' => by go_simp)⟩) HD.out ?_
        try simp only [Act.put, List.getElem_toArray, List.getElem_cons_zero, List.getElem_cons_succ, List.setIfInBounds_toArray, List.set_cons_zero, List.set_cons_succ]
        refine wpAnyH_take (i := 3) (v := msV p.1 p.2) rfl (by kernel_rfl) (by kernel_rfl) (by kernel_rfl) (fun _ _ _ h => h) (Or.inl ⟨by rfl, (fun W' hW' => mat_run _ rfl rfl (HC1.out W' hW'))⟩) HD.out ?_
        try simp only [Act.put, List.getElem_toArray, List.getElem_cons_zero, List.getElem_cons_succ, List.setIfInBounds_toArray, List.set_cons_zero, List.set_cons_succ]
        refine wpAnyH_take (i := 4) (v := .slice (some ⟨b2, o2, none⟩) n cb) rfl (by kernel_rfl) (by kernel_rfl) (by kernel_rfl) (fun _ _ _ h => h) (Or.inl ⟨by rfl, (fun W' hW' => by go_simp)⟩) HD.out ?_
        try simp only [Act.put, List.getElem_toArray, List.getElem_cons_zero, List.getElem_cons_succ, List.setIfInBounds_toArray, List.set_cons_zero, List.set_cons_succ]
        refine wpAnyH_take (i := 5) (v := .int .i64 (i : Int)) rfl (by kernel_rfl) (by kernel_rfl) (by kernel_rfl) (fun _ _ _ h => h) (Or.inl ⟨by rfl, (fun W' hW' => by go_simp)⟩) HD.out ?_
        try simp only [Act.put, List.getElem_toArray, List.getElem_cons_zero, List.getElem_cons_succ, List.setIfInBounds_toArray, List.set_cons_zero, List.set_cons_succ]
        refine wpAnyH_take (i := 6) (v := .pointer (some ⟨b2, o2 + i * 17, none⟩)) rfl (by kernel_rfl) (by kernel_rfl) (by kernel_rfl) (fun _ _ _ h => h) (Or.inl ⟨by rfl, (fun W' hW' => by go_simp)⟩) HD.out ?_
        try simp only [Act.put, List.getElem_toArray, List.getElem_cons_zero, List.getElem_cons_succ, List.setIfInBounds_toArray, List.set_cons_zero, List.set_cons_succ]
        refine wpAnyH_take (i := 7) (v := msV p.1 q.2) rfl (by kernel_rfl) (by kernel_rfl) (by kernel_rfl) (fun _ _ _ h => h) (Or.inl ⟨by rfl, (fun W' hW' => mat_run _ rfl rfl (HC2.out W' hW'))⟩) HD.out ?_
        try simp only [Act.put, List.getElem_toArray, List.getElem_cons_zero, List.getElem_cons_succ, List.setIfInBounds_toArray, List.set_cons_zero, List.set_cons_succ]
        refine wpAnyH_ready (rs := [8]) (by kernel_rfl) (by simp) ?_
        refine AllReadyH.cons rfl (fun K' hK' => ?_) AllReadyH.nil
        go_simp
        refine (msame_any p.1 p.2 q.2 wD (HM1.out _ HWD.out) (HM2.out _ HWD.out)).mono ?_
        rintro e w2 ⟨rfl, hb2'⟩
        have HD2 : Hid (Below wr.heap.size wr w2) := HD.out.trans (hb2'.mono HD.out.size)
        have HW2 : Hid (Below w.heap.size w w2) := HWD.out.trans (hb2'.mono HWD.out.size)
        clear hb2'
        go_wp2_with fail
        refine hK'.out _ _ HD2.out (fun hHeld => ?_)
        clear hK' K' hHeld
        try simp only [Act.put, List.getElem_toArray, List.getElem_cons_zero, List.getElem_cons_succ, List.setIfInBounds_toArray, List.set_cons_zero, List.set_cons_succ]
        refine wpAnyH_take (i := 9) (v := .bool false) rfl (by kernel_rfl) (by kernel_rfl) (by kernel_rfl) (fun _ _ _ h => h) (Or.inl ⟨by rfl, (fun W' hW' => by go_simp)⟩) HD2.out ?_
        try simp only [Act.put, List.getElem_toArray, List.getElem_cons_zero, List.getElem_cons_succ, List.setIfInBounds_toArray, List.set_cons_zero, List.set_cons_succ]
        refine wpAnyH_done (by kernel_rfl) ?_ _
        go_wp2_with fail
        exact ⟨⟨i + 1, by omega, by simp, HW2.out⟩, by simp [intOf]; omega⟩
    · obtain rfl : i = n := by omega
      go_wp2_with fail
      go_ret
      exact ⟨rfl, HB.out⟩
end Go.Proofs.Ytanboekdfdafmaa.Pv
namespace Go.Proofs.Ytanboekdfdafmaa.Pv
open Go.ChangeShapes Go.WideShapes Go.ChangeAt Go.RowKit Go.Joins Go.Proofs.Ytanboekdfdafmaa.PM Go.Proofs.Ytanboekdfdafmaa.Ask Go.Proofs.Ytanboekdfdafmaa.Ge
set_option linter.unusedVariables false

def SentB (ms : List Ms) : List Nat := (ms.map encB).flatten
theorem enc_len {m : Ms} (he : encE m = 0) (hi : InM m) : (encB m).length ≤ 1024 := by
  have hd := dec_back he hi
  rcases dec_cases (encB m) with ⟨e', he', hne⟩ | ⟨m', kd, body, he', h9, hf, -⟩
  · rw [he'] at hd; cases hd; exact absurd rfl hne
  · have := (frE_ok (by omega) hf).1
    omega
theorem parse_many : ∀ (ms : List Ms) (r : List Nat), (∀ m ∈ ms, encE m = 0 ∧ InM m) → parse (SentB ms ++ r) = (ms ++ (parse r).1, (parse r).2)
  | [], r, _ => by simp [SentB]
  | m :: ms, r, h => by
    have e : SentB (m :: ms) ++ r = encB m ++ (SentB ms ++ r) := by simp [SentB]
    rw [e, parse_sent (h m (by simp)).1 (h m (by simp)).2, parse_many ms r (fun m' h' => h m' (by simp [h']))]
    rfl
theorem sent_len : ∀ (ms : List Ms), (∀ m ∈ ms, encE m = 0 ∧ InM m) → (SentB ms).length ≤ 1024 * ms.length
  | [], _ => by simp [SentB]
  | m :: ms, h => by
    have h1 := enc_len (h m (by simp)).1 (h m (by simp)).2
    have h2 := sent_len ms (fun m' h' => h m' (by simp [h']))
    have e : SentB (m :: ms) = encB m ++ SentB ms := by simp [SentB]
    rw [e, List.length_append, List.length_cons]
    omega
theorem sent_u8 : ∀ (ms : List Ms), ∀ d ∈ SentB ms, d < 256
  | [], d, h => by simp [SentB] at h
  | m :: ms, d, h => by
    have e : SentB (m :: ms) = encB m ++ SentB ms := by simp [SentB]
    rw [e, List.mem_append] at h
    rcases h with h | h
    · exact encB_u8 m d h
    · exact sent_u8 ms d h
theorem sent_snoc (ms : List Ms) (m : Ms) : SentB (ms ++ [m]) = SentB ms ++ encB m := by simp [SentB]
theorem rest_len (z : List Nat) : (parse z).2.1.length ≤ 1024 := by
  obtain ⟨h1, h2⟩ := parse_state z
  by_cases h : (parse z).2.2 = 0
  · have h3 := h1 h
    by_cases h6 : 6 ≤ (parse z).2.1.length
    · have := h3.2 h6
      have := bg_six h3.1 h6
      omega
    · omega
  · rw [h2 h]; simp
theorem parse_piece {B : List Nat} {k n : Nat} {ms : List Ms} {x : List Nat} {f : Int} (h : (ms, x, f) = parse (B.take k)) : (ms ++ (TK x f ((B.drop k).take n)).1, (TK x f ((B.drop k).take n)).2) = parse (B.take (k + n)) := by
  have e : B.take (k + n) = B.take k ++ (B.drop k).take n := by rw [List.take_add]
  rw [e, parse_app ((B.take k).length + 1) _ _ (by omega), ← h]
  dsimp only
  unfold TK
  by_cases hf : f = 0
  · rw [if_pos hf, if_pos hf]
  · rw [if_neg hf, if_neg hf]
    simp
/-- while what is sent is written -/
structure L1 (w : World) (l : List (Ms × Sl)) (i : Nat) (wr : World) (bv sv : Value) (bs : List Nat) (sn : List (Ms × Sl)) : Prop where
  bel : Below w.heap.size w wr
  b : OwnL E8 w.heap.size wr bv bs
  s : Gm.OwnL E17 w.heap.size wr sv sn
  e : bs = SentB (sn.map (fun p => p.1))
  m : ∀ p ∈ sn, p ∈ l ∧ encE p.1 = 0 ∧ InM p.1
  n : sn.length ≤ i
  ap : ∀ g, bv.ownBlock = some g → ¬ sv.ownBlock = some g
theorem L1.all {w : World} {l : List (Ms × Sl)} {i : Nat} {wr : World} {bv sv : Value} {bs : List Nat} {sn : List (Ms × Sl)} (h : L1 w l i wr bv sv bs sn) : ∀ m ∈ sn.map (fun p => p.1), encE m = 0 ∧ InM m := fun m hm => by
  obtain ⟨p, hp, rfl⟩ := List.mem_map.1 hm
  exact (h.m p hp).2
theorem L1.len {w : World} {l : List (Ms × Sl)} {i : Nat} {wr : World} {bv sv : Value} {bs : List Nat} {sn : List (Ms × Sl)} (h : L1 w l i wr bv sv bs sn) : bs.length ≤ 1024 * i := by
  have h1 := sent_len _ h.all
  rw [← h.e, List.length_map] at h1
  have := h.n
  omega
theorem L1.start (w : World) (l : List (Ms × Sl)) : L1 w l 0 w (.slice none 0 0) (.slice none 0 0) [] [] := ⟨Below.refl _ _, OwnL.nil _ _ _, Gm.OwnL.nil _ _ _, rfl, (fun _ h => by cases h), Nat.le_refl _, (fun _ h => by cases h)⟩
theorem L1.skip {w : World} {l : List (Ms × Sl)} {i : Nat} {wr w' : World} {bv sv : Value} {bs : List Nat} {sn : List (Ms × Sl)} (h : L1 w l i wr bv sv bs sn) (hb : Below wr.heap.size wr w') : L1 w l (i + 1) w' bv sv bs sn :=
  ⟨h.bel.trans (hb.mono h.bel.size), h.b.bel hb, h.s.bel hb, h.e, h.m, by have := h.n; omega, h.ap⟩
theorem L1.mid {w : World} {l : List (Ms × Sl)} {i : Nat} {wr w6 w7 : World} {bv sv v7 : Value} {bs : List Nat} {sn : List (Ms × Sl)} (h : L1 w l i wr bv sv bs sn) (hb : Below wr.heap.size wr w6) (hg : w6.grownBy w7 bv.ownBlock) : Gm.OwnL E17 w.heap.size w7 sv sn ∧ (∀ g, g < w6.heap.size → wr.heap.size ≤ g → w7.heap[g]? = w6.heap[g]?) ∧ Below w.heap.size w w7 :=
  ⟨(h.s.bel hb).grown hg (fun g e1 e2 => h.ap g e2 e1), fun g h1 h2 => hg.block g h1 (fun e => by have := (h.b.row.lt g e.symm).2; omega), (h.bel.trans (hb.mono h.bel.size)).grown hg (Nat.le_trans h.bel.size hb.size) (fun g e => (h.b.row.lt g e).1)⟩
theorem L1.more {w : World} {l : List (Ms × Sl)} {i : Nat} {wr w6 w7 w8 w9 : World} {bv sv v7 v9 : Value} {bs eb : List Nat} {sn : List (Ms × Sl)} {p : Ms × Sl} (h : L1 w l i wr bv sv bs sn) (hb : Below wr.heap.size wr w6) (hg : w6.grownBy w7 bv.ownBlock) (h7 : OwnL E8 w.heap.size w7 v7 (bs ++ eb)) (ha7 : v7.ownBlock = bv.ownBlock ∨ v7.ownBlock = some w6.heap.size)
    (h8 : Below w7.heap.size w7 w8) (h9 : Gm.OwnL E17 w.heap.size w9 v9 (sn ++ [p])) (hg9 : w8.grownBy w9 sv.ownBlock) (ha9 : v9.ownBlock = sv.ownBlock ∨ v9.ownBlock = some w8.heap.size) (hp : p ∈ l) (he : encE p.1 = 0) (hi : InM p.1) (hebs : encB p.1 = eb) : L1 w l (i + 1) w9 v7 v9 (bs ++ eb) (sn ++ [p]) := by
  obtain ⟨m1, m2, m3⟩ := h.mid (v7 := v7) hb hg
  have hsl : ∀ g, sv.ownBlock = some g → g < wr.heap.size := fun g e => (h.s.row.lt g e).2
  have hbl : ∀ g, bv.ownBlock = some g → g < wr.heap.size := fun g e => (h.b.row.lt g e).2
  have hs6 := hb.size
  have ha : ∀ g, v7.ownBlock = some g → ¬ sv.ownBlock = some g := fun g e1 e2 => by
    rcases ha7 with e | e
    · exact h.ap g (e ▸ e1) e2
    · rw [e] at e1
      cases e1
      have := hsl _ e2
      omega
  refine ⟨(m3.trans (h8.mono m3.size)).grown hg9 (Nat.le_trans m3.size h8.size) (fun g e => (h.s.row.lt g e).1), (h7.bel h8).grown hg9 (fun g e1 e2 => ha g e1 e2), h9, ?_, fun q hq => ?_, ?_, fun g e1 e2 => ?_⟩
  · rw [List.map_append, List.map_cons, List.map_nil, sent_snoc, ← h.e, hebs]
  · rcases List.mem_append.1 hq with hq | hq
    · exact h.m q hq
    · rw [List.mem_singleton] at hq
      subst hq
      exact ⟨hp, he, hi⟩
  · rw [List.length_append]; have := h.n; simp; omega
  · rcases ha9 with e | e
    · exact ha g e1 (e ▸ e2)
    · rw [e] at e2
      cases e2
      have := (h7.row.lt _ e1).2
      have := h8.size
      omega
/-- while the pieces are taken -/
structure L2 (w1 : World) (M : Nat) (B : List Nat) (k : Nat) (wr : World) (v : Value) (l : List (Ms × Sl)) (a : Option Addr) (c : Nat) (x : List Nat) (f : Int) : Prop where
  bel : Below w1.heap.size w1 wr
  big : M ≤ wr.heap.size
  st : Stm M wr w1.heap.size a c x f
  ms : MsL M wr v l
  so : (l.map (fun p => p.1), x, f) = parse (B.take k)
  ap : ∀ p ∈ l, ∀ g, Mown p.2 g → ¬ ob a = some g
  ap2 : ∀ g, v.ownBlock = some g → ¬ ob a = some g
theorem L2.ok {w1 : World} {M : Nat} {B : List Nat} {k : Nat} {wr : World} {v : Value} {l : List (Ms × Sl)} {a : Option Addr} {c : Nat} {x : List Nat} {f : Int} (h : L2 w1 M B k wr v l a c x f) : (f = 0 → SOk x) ∧ x.length ≤ 1024 := by
  have h1 := parse_state (B.take k)
  have h2 := rest_len (B.take k)
  rw [← h.so] at h1 h2
  exact ⟨h1.1, h2⟩
theorem L2.old {w1 : World} {M : Nat} {B : List Nat} {k : Nat} {wr w3 : World} {v : Value} {l : List (Ms × Sl)} {a a3 : Option Addr} {c : Nat} {x : List Nat} {f : Int} (h : L2 w1 M B k wr v l a c x f) (hM : w1.heap.size < M) (hk : Kt wr w1.heap.size a w3 a3) : MsL M w3 v l ∧ M ≤ w3.heap.size := by
  refine ⟨⟨h.ms.own.blk (fun g e => hk.block g (h.ms.own.row.lt g e).2 ?_ (h.ap2 g e)), fun p hp => (h.ms.each p hp).blk (fun g hg h1 h2 => hk.block g h2 ?_ (h.ap p hp g hg)), h.ms.ap, h.ms.pw⟩, Nat.le_trans h.big hk.str.size⟩
  · have := (h.ms.own.row.lt g e).1; omega
  · omega
theorem L2.more {w1 : World} {M : Nat} {B : List Nat} {k n : Nat} {wr w3 w4 : World} {v v3 v4 : Value} {l l3 : List (Ms × Sl)} {a a3 : Option Addr} {c c3 : Nat} {x x3 : List Nat} {f f3 : Int} (h : L2 w1 M B k wr v l a c x f) (hM : w1.heap.size < M) (hk : Kt wr w1.heap.size a w3 a3) (h3 : MsL wr.heap.size w3 v3 l3) (hst : Stm M w3 w1.heap.size a3 c3 x3 f3) (ht : (l3.map (fun p => p.1), x3, f3) = TK x f ((B.drop k).take n))
    (hap : ∀ p ∈ l3, ∀ g, Mown p.2 g → ¬ ob a3 = some g) (h4 : Gm.OwnL E17 M w4 v4 (l ++ l3)) (hg : w3.grownBy w4 v.ownBlock) (ha : v4.ownBlock = v.ownBlock ∨ v4.ownBlock = some w3.heap.size) : L2 w1 M B (k + n) w4 v4 (l ++ l3) a3 c3 x3 f3 := by
  obtain ⟨h5, h6⟩ := h.old hM hk
  have hs := hk.str.size
  have hv : ∀ g, v.ownBlock = some g → M ≤ g ∧ g < wr.heap.size := fun g e => h.ms.own.row.lt g e
  have ha3 : ∀ g, ob a3 = some g → g < w3.heap.size ∧ M ≤ g := fun g e => ⟨(own_obr hst.own g e).2, (own_obr hst.own g e).1⟩
  have hna : ∀ g, ob a3 = some g → ∀ g', (v.ownBlock = some g' ∨ ∃ p ∈ l, Mown p.2 g') → g ≠ g' := fun g e g' hg' e2 => by
    subst e2
    rcases hk.now g e with e3 | e3
    · rcases hg' with e4 | ⟨p, hp, e4⟩
      · exact h.ap2 g e4 e3
      · exact h.ap p hp g e4 e3
    · rcases hg' with e4 | ⟨p, hp, e4⟩
      · have := (hv g e4).2; omega
      · have := ((h.ms.each p hp).rng g e4).2; omega
  refine ⟨⟨?_, ?_, ?_, ?_, ?_⟩, Nat.le_trans h6 hg.size, hst.blk (hg.block _ hst.hl (fun e => by have := (hv _ e.symm).1; omega)) (fun g e _ hl => hg.block g hl (fun e2 => hna g e g (.inl e2.symm) rfl)), ⟨h4, fun p hp => ?_, fun p hp g hm e => ?_, List.pairwise_append.2 ⟨h5.pw, h3.pw, fun p hp q hq g h7 h8 => by have := ((h.ms.each p hp).rng g h7).2; have := ((h3.each q hq).rng g h8).1; omega⟩⟩, ?_, fun p hp g hm e => ?_, fun g e1 e2 => ?_⟩
  · rw [hg.os, hk.str.os, h.bel.os]
  · rw [hg.tape, hk.str.tape, h.bel.tape]
  · rw [hg.output, hk.str.output, h.bel.output]
  · exact Nat.le_trans h.bel.size (Nat.le_trans hs hg.size)
  · intro g hl
    have hlr : g < wr.heap.size := Nat.lt_of_lt_of_le hl h.bel.size
    rw [hg.block g (by omega) (fun e => by have := (hv g e.symm).1; omega), hk.block g hlr (by omega) (fun e => by have := (own_obr h.st.own g e).1; omega), h.bel.block g hl]
  · rcases List.mem_append.1 hp with hp | hp
    · exact (h5.each p hp).blk (fun g hm _ hl => hg.block g hl (fun e => h5.ap p hp g hm e.symm))
    · exact ((h3.each p hp).blk (fun g hm h1 hl => hg.block g hl (fun e => by have := (hv g e.symm).2; omega))).mono h.big
  · rcases List.mem_append.1 hp with hp | hp
    · rcases ha with e2 | e2
      · exact h5.ap p hp g hm (e2 ▸ e)
      · rw [e2] at e
        cases e
        have := ((h5.each p hp).rng _ hm).2
        omega
    · have h8 := (h3.each p hp).rng g hm
      rcases ha with e2 | e2
      · have := (hv g (e2 ▸ e)).2; omega
      · rw [e2] at e
        cases e
        omega
  · rw [← parse_piece (n := n) h.so, ← ht, List.map_append]
  · rcases List.mem_append.1 hp with hp | hp
    · exact hna g e g (.inr ⟨p, hp, hm⟩) rfl
    · exact hap p hp g hm e
  · rcases ha with e3 | e3
    · exact hna g e2 g (.inl (e3 ▸ e1)) rfl
    · rw [e3] at e1
      cases e1
      have := (ha3 _ e2).1
      omega
end Go.Proofs.Ytanboekdfdafmaa.Pv
namespace Go.Proofs.Ytanboekdfdafmaa.Pv
open Go.ChangeShapes Go.WideShapes Go.ChangeAt Go.RowKit Go.Joins Go.Proofs.Ytanboekdfdafmaa.PM Go.Proofs.Ytanboekdfdafmaa.Ask Go.Proofs.Ytanboekdfdafmaa.Ge
set_option linter.unusedVariables false

theorem dec_enc0 {b : List Nat} (h : (dec b).2 = 0) : encE (dec b).1 = 0 := by
  unfold dec at h ⊢
  split at h
  · rename_i h1
    exact absurd h h1
  · rename_i h1
    rw [if_neg h1]
    split at h
    · cases h
    · rename_i m body hr
      split at h
      · rename_i h2
        rw [if_pos h2]
        exact h2.1
      · cases h
theorem parse_enc (x : List Nat) : (∀ m ∈ (parse x).1, encE m = 0) ∧ (parse x).1.length ≤ x.length := by
  suffices h : ∀ (n : Nat) (x : List Nat), x.length < n → (∀ m ∈ (PS n x).1, encE m = 0) ∧ (PS n x).1.length ≤ x.length from h _ x (by omega)
  intro n
  induction n with
  | zero => intro x h; omega
  | succ n ih =>
    intro x hx
    unfold PS
    by_cases hb : bgE x ≠ 0
    · rw [if_pos hb]
      exact ⟨fun m h => (by cases h), Nat.zero_le _⟩
    · rw [if_neg hb]
      have hb0 : bgE x = 0 := by simpa using hb
      by_cases h6 : 6 ≤ x.length ∧ szOf x ≤ x.length
      · have h9 := bg_six hb0 h6.1
        rw [if_pos h6]
        by_cases hd : (dec (x.take (szOf x))).2 = 0
        · rw [if_pos hd]
          have h5 := ih (x.drop (szOf x)) (by rw [List.length_drop]; omega)
          refine ⟨fun m hm => ?_, ?_⟩
          · rcases List.mem_cons.1 hm with rfl | hm
            · exact dec_enc0 hd
            · exact h5.1 m hm
          · have h7 := h5.2
            rw [List.length_drop] at h7
            show ((dec (x.take (szOf x))).1 :: (PS n (x.drop (szOf x))).1).length ≤ _
            rw [List.length_cons]
            omega
        · rw [if_neg hd]
          exact ⟨fun m h => (by cases h), Nat.zero_le _⟩
      · rw [if_neg h6]
        exact ⟨fun m h => (by cases h), Nat.zero_le _⟩
theorem enc_chk {m : Ms} (h : encE m = 0) : chk m = 0 := by
  unfold encE at h
  split at h
  · assumption
  · contradiction
theorem enc_parts {m : Ms} (h : encE m = 0) : isK m.kind = true ∧ form m = true ∧ inR m = true := by
  have hc := enc_chk h
  unfold chk at hc
  split at hc
  · cases hc
  · rename_i h1
    split at hc
    · cases hc
    · rename_i h2
      split at hc
      · cases hc
      · split at hc
        · cases hc
        · split at hc
          · cases hc
          · rename_i h3
            exact ⟨by simpa using h1, by simpa using h2, by simpa using h3⟩
theorem enc_hold {m : Ms} (h : encE m = 0) : 0 ≤ m.hold ∧ m.hold ≤ 65535 := by
  obtain ⟨-, h2, h3⟩ := enc_parts h
  unfold form at h2
  unfold inR at h3
  by_cases k1 : m.kind = 1
  · rw [if_pos k1] at h3
    simp [wi] at h3
    omega
  · rw [if_neg k1] at h2
    split at h2
    · simp at h2; omega
    · split at h2
      · simp at h2; omega
      · simp at h2; omega
theorem TK_enc (x : List Nat) (f : Int) (b : List Nat) : (∀ m ∈ (TK x f b).1, encE m = 0) ∧ (TK x f b).1.length ≤ x.length + b.length := by
  unfold TK
  split
  · have := parse_enc (x ++ b)
    rw [List.length_append] at this
    exact this
  · exact ⟨fun m h => (by cases h), Nat.zero_le _⟩
theorem TK_ok {x : List Nat} {f : Int} (b : List Nat) (h : (f = 0 → SOk x) ∧ x.length ≤ 1024) : ((TK x f b).2.2 = 0 → SOk (TK x f b).2.1) ∧ (TK x f b).2.1.length ≤ 1024 := by
  unfold TK
  split
  · exact ⟨(parse_state (x ++ b)).1, rest_len _⟩
  · rename_i h0
    exact ⟨fun e => absurd e h0, h.2⟩
end Go.Proofs.Ytanboekdfdafmaa.Pv
