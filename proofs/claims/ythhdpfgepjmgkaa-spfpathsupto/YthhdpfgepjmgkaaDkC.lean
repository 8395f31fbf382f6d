/- What Reaches hands out: a copy of each way, in order. -/
import Derived.Test.YthhdpfgepjmgkaaDkB
import Derived.Test.YthhdpfgepjmgkaaShelf
import Derived.Shelf.SlSortCmp.NoneTotal
import Derived.Sort.OwnSortedInts
namespace Go.Proofs.Ythhdpfgepjmgkaa.Dj
open Go.ChangeShapes Go.WideShapes Go.ChangeAt Go.RowKit Go.Joins Go.Deep Go.Shelf Go.Lib Go.Sort Go.Proofs.Ythhdpfgepjmgkaa.Ge
set_option linter.unusedVariables false
set_option linter.unusedSimpArgs false

instance : Inhabited Rc := ⟨zr⟩
def cmp3 (x y : Int) : Int := if x < y then -1 else if y < x then 1 else 0
theorem nan_any (x : Int) (w : World) : Calls Try.prog 48 #[.int .i64 x] w fun e w' => e = .returned (.bool false) ∧ w' = w := by
  go_enter Try.func48, Try.ntmps48
  go_wp2_with fail
  go_ret
  exact ⟨rfl, rfl⟩
theorem cmp_any (x y : Int) (w : World) : Calls Try.prog 30 #[.int .i64 x, .int .i64 y] w fun e w' => e = .returned (.int .i64 (cmp3 x y)) ∧ w' = w := by
  obtain ⟨z, hz⟩ : ∃ z, cmp3 x y = z := ⟨_, rfl⟩
  rw [hz]
  have HZ : Hid (cmp3 x y = z) := hz
  clear hz
  go_enter Try.func30, Try.ntmps30
  go_wp2_with fail
  refine (nan_any x w).mono ?_
  rintro e w1 ⟨rfl, hw⟩
  rw [hw]
  clear hw w1
  go_wp2_with fail
  refine (nan_any y w).mono ?_
  rintro e w1 ⟨rfl, hw⟩
  rw [hw]
  clear hw w1
  by_cases h1 : x < y
  · have HE : Hid (z = -1) := by show _ = _; rw [← HZ.out]; unfold cmp3; rw [if_pos h1]
    go_wp2_with fail
    go_ret
    exact ⟨by rw [HE.out]; try rfl, rfl⟩
  · by_cases h2 : y < x
    · have HE : Hid (z = 1) := by show _ = _; rw [← HZ.out]; unfold cmp3; rw [if_neg h1, if_pos h2]
      go_wp2_with fail
      go_ret
      exact ⟨by rw [HE.out]; try rfl, rfl⟩
    · have HE : Hid (z = 0) := by show _ = _; rw [← HZ.out]; unfold cmp3; rw [if_neg h1, if_neg h2]
      go_wp2_with fail
      go_ret
      exact ⟨by rw [HE.out]; try rfl, rfl⟩
def ordR (x y : Rc) : Int := cmp3 x.n y.n
theorem ordR_lt (x y : Rc) : ltOf ordR x y = decide (x.n < y.n) := by
  unfold ltOf ordR cmp3
  by_cases h1 : x.n < y.n
  · rw [if_pos h1]; simp [h1]
  · rw [if_neg h1]
    by_cases h2 : y.n < x.n
    · rw [if_pos h2]; simp [h1]
    · rw [if_neg h2]; simp [h1]
theorem ordR_swo : SWO (ltOf ordR) where
  irrefl x := by rw [ordR_lt]; simp
  trans x y z h1 h2 := by rw [ordR_lt] at *; simp at *; omega
  ntrans x y z h1 h2 := by rw [ordR_lt] at *; simp at *; omega
theorem list_boxe {ops : Array Oper} {rest : List Oper} {o : Oper} {ac : Act} {Q : Exit → Act → World → Prop} {W : World} (T : Sk) (hgd : o.guard = none) (x : Operand) (ho : o.op = .box T.t x) {cs : List Value} (hx : ac.eval x = .agg cs.toArray)
    (k : ∀ b W', Hid (SB T b cs W') → Hid (b < W'.heap.size) → Hid (W' = W.alloc (Obj.cells cs.toArray T.t)) → wpList Try.prog ops Q rest (ac.put o.dst (.pointer (some ⟨b, 0, none⟩))) W') : wpList Try.prog ops Q (o :: rest) ac W := by
  refine wpList_plain hgd fun K hK => ?_
  unfold Oper.wp
  rw [sbox_run T x ho hx]
  exact hK _ _ (k _ _ (World.alloc_heap_new W _) (SB.lt (World.alloc_heap_new W _ : SB T W.heap.size cs _)) rfl)
set_option maxHeartbeats 1000000 in
theorem cmpr_lays (x y : Rc) (w : World) :
    Calls Try.prog 29 #[.agg (rcL x).toArray, .agg (rcL y).toArray] w fun e w' => e = .returned (.int .i64 (ordR x y)) ∧ ∃ q os', w' = grow (w.drewN q) os' := by
  go_enter Try.func29, Try.ntmps29
  go_wp2_with (refine list_boxe RcK rfl _ rfl (cs := rcL x) rfl ?_)
  intro b2 w2 hs2 hl2 he2
  have HS2 : Hid (SB RcK b2 (rcL x) w2 ∧ b2 < w2.heap.size) := ⟨hs2.out, hl2.out⟩
  have HE2 : Hid (w2 = w.alloc (Obj.cells (rcL x).toArray RcK.t)) := he2.out
  clear hs2 hl2 he2
  go_wp2_with (refine list_boxe RcK rfl _ rfl (cs := rcL y) rfl ?_)
  intro b3 w3 hs3 hl3 he3
  have c20 : w3.cell? ⟨b2, 0, none⟩ = some (.int .i64 x.n) := by
    have h1 : Below w2.heap.size w2 w3 := by rw [he3.out]; exact (Below.refl _ w2).alloc (Nat.le_refl _) _
    exact (HS2.out.1.blk (h1.block b2 HS2.out.2)).cell 0
  have c30 : w3.cell? ⟨b3, 0, none⟩ = some (.int .i64 y.n) := hs3.out.cell 0
  have HE3 : Hid (∃ q os', w3 = grow (w.drewN q) os') := ⟨0, _, by rw [he3.out, HE2.out, alloc_eq_grow, alloc_eq_grow, grow_grow]; rfl⟩
  clear hs3 hl3 he3 HS2 HE2
  go_wp2_with fail
  refine (cmp_any x.n y.n w3).mono ?_
  rintro e w4 ⟨rfl, hw⟩
  rw [hw]
  clear hw w4
  go_wp2_with fail
  go_ret
  exact ⟨rfl, HE3.out⟩
theorem rsort_grown {k : Nat} {w : World} {g n : Nat} {os : Array Obj} (enc : Rc → List Value) (d : Array Rc) : w.grownBy (sortWorldK enc k w g 0 n d os) (some g) := by
  unfold sortWorldK putRowK
  refine ⟨rfl, rfl, rfl, by simp, fun i hi hne => ?_⟩
  rw [heap_grow_old _ _ (by simpa using hi)]
  have : g ≠ i := fun e => hne (by rw [e])
  simp [putRow, mapBlock, Sort.ahead, Array.getElem?_modify, this]
theorem rsort_any (N g n c : Nat) (xs : List Rc) (w : World) (ho : OwnL ER N w (.slice (some ⟨g, 0, none⟩) n c) xs) (hn40 : n ≤ 1099511627775) :
    Calls Try.prog 28 #[.slice (some ⟨g, 0, none⟩) n c, .func (.func 29) #[] #[]] w fun e w' => e = .returned (.tuple #[]) ∧ ∃ ys, ys.Perm xs ∧ ys.Pairwise (fun p q => p.n ≤ q.n) ∧ Lst ER w' (some ⟨g, 0, none⟩) ys ∧ w.grownBy w' (some g) ∧ (∀ k, k < n * 3 → w'.frozen? ⟨g, k, none⟩ = false) ∧ OwnL ER N w' (.slice (some ⟨g, 0, none⟩) n c) ys := by
  obtain ⟨hc, hf, hg, -⟩ := ho.at0
  have hlen := ho.lst.2
  have hsm : xs.length < 4611686018427387904 := by omega
  have hH : HoldsK ER.enc 3 w g 0 xs.toArray := by
    intro j hj
    have hj2 : j < xs.length * 3 := by simpa using hj
    refine ⟨?_, by rw [Nat.zero_add]; exact hf j⟩
    rw [get_flatK _ _ _ _ (by simpa using hj2), Nat.zero_add]
    have hq : j / 3 < xs.length := by omega
    have h1 := hc (j / 3) hq (j % 3) (by show j % 3 < 3; omega)
    have e1 : j / 3 * ER.k + j % 3 = j := by show j / 3 * 3 + j % 3 = j; omega
    rw [e1] at h1
    rw [h1]
    have e2 : xs.toArray[j / 3]! = xs[j / 3] := by simp [hq]
    rw [e2]
    have hl : j % 3 < (ER.enc xs[j / 3]).length := by show j % 3 < 3; omega
    rw [List.getElem?_eq_getElem hl, List.getElem!_eq_getElem?_getD, List.getElem?_eq_getElem hl]
    rfl
  have eg : ∀ args w, (callFunc 29 args).run Try.prog w = .ok (.enter 29 args) w := enters_of Try.func29 (by kernel_rfl) rfl
  have hcon := AnyQ.slices_SortFunc Try.sortPf 3 Try.isAgg32 Try.sizeOf32 ER.enc (fun _ => rfl) ER.hone ordR ordR_swo 29 #[] g 0 c xs.toArray w eg (fun _ _ _ _ x y => cmpr_lays x y _) hH hg (by simpa using hsm)
  have hsz : xs.toArray.size = n := by simpa using hlen
  rw [hsz] at hcon
  refine Calls.mono hcon ?_
  rintro e w' ⟨rfl, d', m, os, hp, hs, rfl⟩
  obtain ⟨p1, -, p3⟩ := hp
  rw [hsz] at p1
  have hlst : Lst ER (sortWorldK ER.enc 3 w g 0 m d' os) (some ⟨g, 0, none⟩) d'.toList := by
    have h9 := holdsK_sortWorldK_c ER.enc 3 w g 0 xs.toArray d' m os hH hg (by omega)
    refine ⟨by simp; omega, fun i hi => ⟨g, 0, rfl, ?_, fun j hj => ?_⟩⟩
    · exact Nat.lt_of_lt_of_le hg (rsort_grown (w := w) (g := g) (n := m) (os := os) ER.enc d').size
    · have hi' : i < d'.size := by simpa using hi
      have hj2 : j < 3 := hj
      have h2 := (h9 (i * 3 + j) (by rw [size_flatK]; omega)).1
      rw [get_flatK _ _ _ _ (by omega), show (i * 3 + j) / 3 = i by omega, show (i * 3 + j) % 3 = j by omega] at h2
      have e1 : d'[i]! = d'[i] := by simp [hi']
      rw [e1] at h2
      show _ = (ER.enc d'.toList[i])[j]?
      have e3 : 0 + i * ER.k + j = 0 + (i * 3 + j) := by show 0 + i * 3 + j = _; omega
      rw [e3, h2]
      have hl : j < (ER.enc d'[i]).length := hj2
      simp only [Array.getElem_toList]
      rw [List.getElem?_eq_getElem hl, List.getElem!_eq_getElem?_getD, List.getElem?_eq_getElem hl]
      rfl
  refine ⟨rfl, d'.toList, ?_, ?_, hlst, rsort_grown _ _, ?_, ?_⟩
  · have e1 : d'.extract 0 n = d' := by rw [← p1]; simp
    have e2 : xs.toArray.extract 0 n = xs.toArray := by rw [← hsz]; simp
    rw [e1, e2] at p3
    simpa using p3
  · rw [List.pairwise_iff_getElem]
    intro i j hi hj hij
    have hi' : i < d'.size := by simpa using hi
    have hj' : j < d'.size := by simpa using hj
    have h1 := hs i j (Nat.zero_le _) hij (by omega)
    rw [ordR_lt] at h1
    have e1 : d'[j]! = d'[j] := by simp [hj']
    have e2 : d'[i]! = d'[i] := by simp [hi']
    rw [e1, e2] at h1
    simp at h1
    simp
    omega
  · intro k hk
    have h9 := holdsK_sortWorldK_c ER.enc 3 w g 0 xs.toArray d' m os hH hg (by omega)
    have h2 := (h9 k (by rw [size_flatK]; omega)).2
    rw [Nat.zero_add] at h2
    exact h2
  · rcases ho.row.2 with ⟨h1, -⟩ | ⟨g', c', cur, h1, h2, h3, h4, h5, h6, -⟩
    · cases h1
    · cases h1
      have h7 : (sortWorldK ER.enc 3 w g 0 m d' os).heap[g]? = some (.cells (putCells id 0 (flatK ER.enc 3 d') cur) 32 (0, 0)) := by
        unfold sortWorldK putRowK putRow mapBlock
        rw [heap_grow_old _ _ (by simpa [Sort.ahead] using hg)]
        have h8 : (Sort.ahead w m).heap[g]? = some (.cells cur 32 (0, 0)) := h3
        simp only [Array.getElem?_modify, if_true, h8, Option.map_some]
        try rfl
      have h9 : d'.toList.length = xs.length := by simp; omega
      refine ⟨by rw [cs_len, h9], .inr ⟨g, c, _, by rw [h9], h2, h7, by omega, h5, by unfold putCells; simp [h6], ?_⟩⟩
      refine List.ext_getElem? (fun j => ?_)
      rw [List.getElem?_take]
      have hk3 : ER.k = 3 := rfl
      by_cases hj : j < d'.toList.length * ER.k
      · rw [if_pos hj]
        have hj3 : j < d'.toList.length * 3 := hj
        have hjq : j / 3 < d'.toList.length := by omega
        obtain ⟨b, o, e, -, hcell⟩ := hlst.cells (j / 3) hjq
        cases e
        have h10 := hcell (j % 3) (by show j % 3 < 3; omega)
        have h11 : 0 + j / 3 * ER.k + j % 3 = j := by show 0 + j / 3 * 3 + j % 3 = j; omega
        rw [h11] at h10
        have h12 : j / 3 * ER.k + j % 3 = j := by show j / 3 * 3 + j % 3 = j; omega
        have h13 := cs_at ER d'.toList (j / 3) hjq (j % 3) (by show j % 3 < 3; omega)
        rw [h12] at h13
        rw [h13, ← h10]
        unfold World.cell?
        rw [h7]
        simp
      · rw [if_neg hj, List.getElem?_eq_none]
        rw [cs_len]
        omega
end Go.Proofs.Ythhdpfgepjmgkaa.Dj
