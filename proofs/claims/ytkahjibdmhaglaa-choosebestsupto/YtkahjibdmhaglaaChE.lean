/- One step strikes out. -/
import Derived.Test.YtkahjibdmhaglaaChD
import Derived.Maps.Range
namespace Go.Proofs.Ytkahjibdmhaglaa.Ch
open Go.ChangeShapes Go.WideShapes Go.ChangeAt Go.RowKit Go.Joins Go.Deep Go.Proofs.Ytkahjibdmhaglaa.Ge
set_option linter.unusedVariables false
set_option linter.unusedSimpArgs false

def of0 : Of := ⟨0, 0, [], 0, 0, 0, 0, [], [], 0, 0, false, 0⟩
/-- the offer at a place -/
def atO (xs : List (Of × Oa)) (i : Nat) : Of := ((xs[i]?).map Prod.fst).getD of0
theorem atO_is {xs : List (Of × Oa)} {i : Nat} (h : i < xs.length) : atO xs i = xs[i].1 := by unfold atO; rw [List.getElem?_eq_getElem h]; rfl
/-- what a step leaves of places -/
def strkP (X : Nat → Of) (k : Nat) (ps : List Nat) : List Nat := ps.filter (fun i => !decide (stp k (X (minP (fun i j => stp k (X i) (X j)) ps)) (X i) < 0))
/-- what a call that strikes out answers -/
def SkPost (w : World) (N : Nat) (v : Value) (ys : List Nat) (e : Ending) (w' : World) : Prop := ∃ v', e = .returned v' ∧ OwnL EN N w' v' ys ∧ w.grownBy w' v.ownBlock ∧ (v'.ownBlock = v.ownBlock ∨ v'.ownBlock = none)
theorem fv_cells (k : Nat) : (fvK k).cells = #[fvK k] := by
  unfold fvK
  split <;> rfl
theorem box1_run {o : Oper} {ρ : Operand → Value} {W : World} {t : TypeId} (x : Operand) (ho : o.op = .box t x) {v : Value} (hx : ρ x = v) (hv : v.cells = #[v]) : (execOp ρ o).run Try.prog W = .ok (.value (.pointer (some ⟨W.heap.size, 0, none⟩))) (W.alloc (Obj.cells #[v] t)) := by
  unfold execOp
  rw [ho]
  simp [go_sem, hx]
  show W.alloc (Obj.cells v.cells t) = _
  rw [hv]
theorem list_box1 {ops : Array Oper} {rest : List Oper} {o : Oper} {ac : Act} {Q : Exit → Act → World → Prop} {W : World} (t : TypeId) (hgd : o.guard = none) (x : Operand) (ho : o.op = .box t x) (v : Value) (hx : ac.eval x = v) (hv : v.cells = #[v])
    (k : ∀ b W', Hid (W.heap.size = b) → Hid (W'.heap[b]? = some (Obj.cells #[v] t)) → Hid (Below W.heap.size W W') → wpList Try.prog ops Q rest (ac.put o.dst (.pointer (some ⟨b, 0, none⟩))) W') : wpList Try.prog ops Q (o :: rest) ac W := by
  refine wpList_plain hgd fun K hK => ?_
  unfold Oper.wp
  rw [box1_run x ho hx hv]
  exact hK _ _ (k _ _ rfl (World.alloc_heap_new W _) ((Below.refl _ W).alloc (Nat.le_refl _) _))
theorem cell1 {W : World} {b : Nat} {v : Value} {t : TypeId} (h : W.heap[b]? = some (Obj.cells #[v] t)) : W.cell? ⟨b, 0, none⟩ = some v := by unfold World.cell?; rw [h]; simp
theorem lt1 {W : World} {b : Nat} {o : Obj} (h : W.heap[b]? = some o) : b < W.heap.size := (Array.getElem?_eq_some_iff.1 h).1
/-- where places are places of offers -/
def InN (ps : List Nat) (n : Nat) : Prop := ∀ i ∈ ps, i < n
theorem ko_bel {N g : Nat} {w W : World} (h : Ko w g W) (hg : N ≤ g) : Below N w W := h.below hg
set_option maxRecDepth 100000 in
set_option maxHeartbeats 16000000 in
theorem strike_any (k : Nat) (hk : k < 8) (la : Option Addr) (n lc : Nat) (xs : List (Of × Oa)) (hxn : xs.length = n) (N : Nat) (v : Value) (ps : List Nat) (hin : InN ps n) (w : World) (hN : N ≤ w.heap.size) (hx : Ofs N w la xs) (h : OwnL EN N w v ps) (ys : List Nat) (hys : strkP (atO xs) k ps = ys) : Calls Try.prog 69 #[fvK k, .slice la n lc, v] w (SkPost w N v ys) := by
  have hfc := fv_cells k
  obtain ⟨va, vc, rfl, -⟩ := h.form
  have HX : Hid (Ofs N w la xs) := hx
  have HXN : Hid (xs.length = n) := hxn
  have HIN : Hid (InN ps n) := hin
  have HNN : Hid (N ≤ w.heap.size) := hN
  have HO : Hid (OwnL EN N w (.slice va ps.length vc) ps) := h
  have HYS : Hid (strkP (atO xs) k ps = ys) := hys
  obtain ⟨m, hm⟩ : ∃ m, ps.length = m := ⟨_, rfl⟩
  have HM : Hid (ps.length = m) := hm
  rw [hm] at HO ⊢
  have HFC : Hid ((fvK k).cells = #[fvK k]) := hfc
  have HK : Hid (k < 8) := hk
  obtain ⟨fv, hfv⟩ : ∃ y, fvK k = y := ⟨_, rfl⟩
  rw [hfv] at HFC ⊢
  have HFV : Hid (fvK k = fv) := hfv
  clear hx hxn hin h hys hN hm hfc hfv hk
  go_enter Try.func69, Try.ntmps69
  go_wp2_with (refine list_box1 46 rfl _ rfl fv rfl HFC.out ?_)
  intro b3 W1 hbe hx hb
  have HB3 : Hid (W1.heap[b3]? = some (Obj.cells #[fv] 46)) := hx.out
  have HL1 : Hid (Below w.heap.size w W1) := hb.out
  have HG3 : Hid (w.heap.size ≤ b3) := Nat.le_of_eq hbe.out
  clear hbe hx hb
  go_wp2_with (refine list_box1 22 rfl _ rfl (.slice la n lc) rfl rfl ?_)
  intro b4 W2 hbe hx hb
  have HB4 : Hid (W2.heap[b4]? = some (Obj.cells #[.slice la n lc] 22)) := hx.out
  have HB32 : Hid (W2.heap[b3]? = some (Obj.cells #[fv] 46)) := (hb.out.block b3 (lt1 HB3.out)).trans HB3.out
  have HL2 : Hid (Below w.heap.size w W2) := HL1.out.trans (hb.out.mono HL1.out.size)
  have HG4 : Hid (w.heap.size ≤ b4) := by have := HL1.out.size; have := hbe.out; show _ ≤ _; omega
  clear hbe hx hb HB3 HL1
  by_cases h0 : m = 0
  case pos =>
    have HE : Hid (SkPost w N (.slice va m vc) ys (.returned (.slice none 0 0)) W2) := by
      have h5 := HM.out
      rw [h0] at h5
      have h6 : ps = [] := List.length_eq_zero_iff.1 h5
      have h7 : ys = [] := by rw [← HYS.out, h6]; rfl
      rw [h7]
      exact ⟨_, rfl, OwnL.nil _ _ _, ⟨HL2.out.os, HL2.out.tape, HL2.out.output, HL2.out.size, fun g hg _ => HL2.out.block g hg⟩, .inr rfl⟩
    have h0b : ((m : Int) == 0) = true := by simpa using h0
    clear h0
    go_wp2_with fail
    go_ret
    exact HE.out
  have h0b : ((m : Int) == 0) = false := by simpa using h0
  have hm0 : 0 < m := by omega
  obtain ⟨lb, lo, rfl⟩ : ∃ b o, la = some ⟨b, o, none⟩ := by
    have h5 : 0 < ps.length := by rw [HM.out]; exact hm0
    have h6 := HIN.out _ (List.getElem_mem h5)
    obtain ⟨b, o, e, -⟩ := HX.out.at ps[0] (by rw [HXN.out]; exact h6)
    exact ⟨b, o, e⟩
  obtain ⟨g, rfl, hgN, hgl⟩ : ∃ g, va = some ⟨g, 0, none⟩ ∧ N ≤ g ∧ g < w.heap.size := by
    rcases HO.out.row.2 with ⟨h1, h2⟩ | ⟨g', c, cur, h1, h2, h3, h4⟩
    · have := HM.out; omega
    · cases h1
      exact ⟨g', rfl, h2, lt1 h3⟩
  have HGL : Hid (N ≤ g ∧ g < w.heap.size) := ⟨hgN, hgl⟩
  have HC1 : Hid (∀ W, W.heap[b3]? = some (Obj.cells #[fv] 46) → W.heap[b4]? = some (Obj.cells #[.slice (some ⟨lb, lo, none⟩) n lc] 22) → Ofs N W (some ⟨lb, lo, none⟩) xs → ∀ i ∈ ps, ∀ j ∈ ps, Calls Try.prog 80 #[.int .i64 (i : Int), .int .i64 (j : Int), .pointer (some ⟨b3, 0, none⟩), .pointer (some ⟨b4, 0, none⟩)] W fun e w' => e = .returned (.int .i64 (stp k (atO xs i) (atO xs j))) ∧ ∃ q, w' = W.drewN q) := fun W hb3 hb4 hW i hi j hj => by
    have hi2 := HIN.out i hi
    have hj2 := HIN.out j hj
    have hxi : i < xs.length := by rw [HXN.out]; exact hi2
    have hxj : j < xs.length := by rw [HXN.out]; exact hj2
    obtain ⟨b, o, e, h1⟩ := hW.at i hxi
    cases e
    obtain ⟨b, o, e, h2⟩ := hW.at j hxj
    cases e
    rw [atO_is hxi, atO_is hxj]
    exact c80_any k HK.out b3 b4 lb lo n lc i j _ _ _ _ W (by rw [HFV.out]; exact cell1 hb3) (cell1 hb4) hi2 hj2 h1 h2
  have HC2 : Hid (∀ b7 W, W.heap[b3]? = some (Obj.cells #[fv] 46) → W.heap[b4]? = some (Obj.cells #[.slice (some ⟨lb, lo, none⟩) n lc] 22) → Ofs N W (some ⟨lb, lo, none⟩) xs → ∀ i ∈ ps, W.heap[b7]? = some (Obj.cells #[.int .i64 (i : Int)] 3) → ∀ j ∈ ps, Calls Try.prog 81 #[.int .i64 (j : Int), .pointer (some ⟨b3, 0, none⟩), .pointer (some ⟨b4, 0, none⟩), .pointer (some ⟨b7, 0, none⟩)] W fun e w' => e = .returned (.bool (decide (stp k (atO xs i) (atO xs j) < 0))) ∧ ∃ q, w' = W.drewN q) := fun b7 W hb3 hb4 hW i hi hb7 j hj => by
    have hi2 := HIN.out i hi
    have hj2 := HIN.out j hj
    have hxi : i < xs.length := by rw [HXN.out]; exact hi2
    have hxj : j < xs.length := by rw [HXN.out]; exact hj2
    obtain ⟨b, o, e, h1⟩ := hW.at i hxi
    cases e
    obtain ⟨b, o, e, h2⟩ := hW.at j hxj
    cases e
    rw [atO_is hxi, atO_is hxj]
    exact c81_any k HK.out b3 b4 b7 lb lo n lc i j _ _ _ _ W (by rw [HFV.out]; exact cell1 hb3) (cell1 hb4) (cell1 hb7) hi2 hj2 h1 h2
  have HX2 : Hid (Ofs N W2 (some ⟨lb, lo, none⟩) xs) := HX.out.bel (HL2.out.mono HNN.out)
  have HO2 : Hid (OwnL EN N W2 (.slice (some ⟨g, 0, none⟩) m vc) ps) := HO.out.bel HL2.out
  have HMI := min_any (.pointer (some ⟨b3, 0, none⟩)) (.pointer (some ⟨b4, 0, none⟩)) (fun i j => stp k (atO xs i) (atO xs j)) (some ⟨g, 0, none⟩) m vc ps HM.out hm0 W2 HO2.out.lst.1 (fun q i hi j hj => HC1.out (W2.drewN q) HB32.out HB4.out (HX2.out.bel ((dn_bel W2 q).mono (Nat.le_trans HNN.out HL2.out.size))) i hi j hj)
  obtain ⟨bst, hbst⟩ : ∃ y, minP (fun i j => stp k (atO xs i) (atO xs j)) ps = y := ⟨_, rfl⟩
  rw [hbst] at HMI
  have HBM : Hid (bst ∈ ps) := by rw [← hbst]; exact minP_mem _ ps (fun e => by rw [e] at HM; have := HM.out; simp at this; omega)
  have HYF : Hid (ps.filter (fun i => !decide (stp k (atO xs bst) (atO xs i) < 0)) = ys) := by show _ = _; rw [← HYS.out]; unfold strkP; rw [hbst]
  clear hbst h0 HYS
  go_wp2_with fail
  refine HMI.mono ?_
  rintro e W3 ⟨rfl, q3, hw3⟩
  have HB33 : Hid (W3.heap[b3]? = some (Obj.cells #[fv] 46)) := by rw [hw3]; exact HB32.out
  have HB43 : Hid (W3.heap[b4]? = some (Obj.cells #[.slice (some ⟨lb, lo, none⟩) n lc] 22)) := by rw [hw3]; exact HB4.out
  have HL3 : Hid (Below w.heap.size w W3) := by rw [hw3]; exact HL2.out.trans ((dn_bel W2 q3).mono HL2.out.size)
  clear hw3 HMI HB32 HB4 HX2 HO2 HL2
  go_wp2_with fail
  obtain ⟨b7, hb7⟩ : ∃ y, W3.heap.size = y := ⟨_, rfl⟩
  obtain ⟨W4, hW4⟩ : ∃ y, W3.alloc (Obj.cells #[.int .i64 (bst : Int)] 3) = y := ⟨_, rfl⟩
  have HLA : Hid (Below W3.heap.size W3 W4) := by rw [← hW4]; exact (Below.refl _ W3).alloc (Nat.le_refl _) _
  have HB7 : Hid (W4.heap[b7]? = some (Obj.cells #[.int .i64 (bst : Int)] 3)) := by rw [← hW4, ← hb7]; exact World.alloc_heap_new W3 _
  have HG7 : Hid (w.heap.size ≤ b7) := by rw [← hb7]; exact HL3.out.size
  rw [hb7, hW4]
  clear hb7 hW4
  have HB34 : Hid (W4.heap[b3]? = some (Obj.cells #[fv] 46)) := (HLA.out.block b3 (lt1 HB33.out)).trans HB33.out
  have HB44 : Hid (W4.heap[b4]? = some (Obj.cells #[.slice (some ⟨lb, lo, none⟩) n lc] 22)) := (HLA.out.block b4 (lt1 HB43.out)).trans HB43.out
  have HL4 : Hid (Below w.heap.size w W4) := HL3.out.trans (HLA.out.mono HL3.out.size)
  have HX4 : Hid (Ofs N W4 (some ⟨lb, lo, none⟩) xs) := HX.out.bel (HL4.out.mono HNN.out)
  have HO4 : Hid (OwnL EN N W4 (.slice (some ⟨g, 0, none⟩) m vc) ps) := HO.out.bel HL4.out
  have HDE := del81_any (.pointer (some ⟨b3, 0, none⟩)) (.pointer (some ⟨b4, 0, none⟩)) (.pointer (some ⟨b7, 0, none⟩)) (fun i => decide (stp k (atO xs bst) (atO xs i) < 0)) N g m vc ps HM.out W4 HO4.out (fun W hW i hi => HC2.out b7 W ((hW.block b3 (by have := HGL.out; have := HG3.out; omega)).trans HB34.out) ((hW.block b4 (by have := HGL.out; have := HG4.out; omega)).trans HB44.out) (HX4.out.bel (hW.below HGL.out.1)) bst HBM.out ((hW.block b7 (by have := HGL.out; have := HG7.out; omega)).trans HB7.out) i hi) ys HYF.out
  clear HLA HB33 HB43 HL3 HC1 HC2 HB34 HB44 HB7 HX4 HO4
  refine HDE.mono ?_
  rintro e W5 ⟨rfl, ho5, hk5⟩
  have HE : Hid (SkPost w N (.slice (some ⟨g, 0, none⟩) m vc) ys (.returned (.slice (some ⟨g, 0, none⟩) ys.length vc)) W5) := by
    have hb := (HL4.out.mono HNN.out).trans (hk5.below HGL.out.1)
    exact ⟨_, rfl, ho5, ⟨hb.os, hb.tape, hb.output, hb.size, fun k hk hne => (hk5.block k (fun e => hne (by rw [e]; rfl))).trans (HL4.out.block k hk)⟩, .inl rfl⟩
  clear ho5 hk5 HDE
  go_wp2_with fail
  go_ret
  exact HE.out
/-- what several steps leave -/
def strkA (X : Nat → Of) (ks : List Nat) (ps : List Nat) : List Nat := ks.foldl (fun ps k => strkP X k ps) ps
theorem strkP_sub (X : Nat → Of) (k : Nat) (ps : List Nat) : (strkP X k ps).Sublist ps := List.filter_sublist
theorem strkA_sub (X : Nat → Of) : ∀ (ks ps : List Nat), (strkA X ks ps).Sublist ps
  | [], ps => List.Sublist.refl _
  | k :: ks, ps => (strkA_sub X ks (strkP X k ps)).trans (strkP_sub X k ps)
theorem strkA_next {X : Nat → Of} {ks ps : List Nat} {i : Nat} (h : i < ks.length) : strkA X (ks.take (i + 1)) ps = strkP X ks[i] (strkA X (ks.take i) ps) := by
  unfold strkA
  rw [(List.take_append_getElem h).symm, List.foldl_append]
  rfl
structure SsI (w : World) (N : Nat) (v : Value) (X : Nat → Of) (ks ps : List Nat) (m : Nat) (iv lv : Value) (W : World) : Prop where
  at_ : ∃ i : Nat, i ≤ m ∧ iv = .int .i64 (i : Int) ∧ OwnL EN N W lv (strkA X (ks.take i) ps)
  gr : w.grownBy W v.ownBlock
  lo : lv.ownBlock = v.ownBlock ∨ lv.ownBlock = none
theorem gr_bel {N : Nat} {w W : World} {v : Value} {ps : List Nat} (h : w.grownBy W v.ownBlock) (hN : N ≤ w.heap.size) (ho : OwnL EN N w v ps) : Below N w W := (Below.refl N w).grown h hN (fun k e => (ho.row.lt k e).1)
set_option maxRecDepth 100000 in
set_option maxHeartbeats 16000000 in
theorem strikes_any (ks : List Nat) (m sc : Nat) (hkm : ks.length = m) (hks : ∀ k ∈ ks, k < 8) (sb : Nat) (la : Option Addr) (n lc : Nat) (xs : List (Of × Oa)) (hxn : xs.length = n) (N : Nat) (v : Value) (ps : List Nat) (hin : InN ps n) (w : World) (hN : N ≤ w.heap.size) (hx : Ofs N w la xs) (h : OwnL EN N w v ps) (hs : ∀ i (hi : i < ks.length), w.cell? ⟨sb, i, none⟩ = some (fvK ks[i])) (hsn : v.ownBlock ≠ some sb) (ys : List Nat) (hys : strkA (atO xs) ks ps = ys) (hm9 : m ≤ 100) : Calls Try.prog 54 #[.slice (some ⟨sb, 0, none⟩) m sc, .slice la n lc, v] w (SkPost w N v ys) := by
  have HKM : Hid (ks.length = m) := hkm
  have HKS : Hid (∀ k ∈ ks, k < 8) := hks
  have HX : Hid (Ofs N w la xs) := hx
  have HXN : Hid (xs.length = n) := hxn
  have HIN : Hid (InN ps n) := hin
  have HNN : Hid (N ≤ w.heap.size) := hN
  have HO : Hid (OwnL EN N w v ps) := h
  have HS : Hid (∀ i (hi : i < ks.length), w.cell? ⟨sb, i, none⟩ = some (fvK ks[i])) := hs
  have HSN : Hid (v.ownBlock ≠ some sb) := hsn
  have HYS : Hid (strkA (atO xs) ks ps = ys) := hys
  clear hkm hks hx hxn hin hN h hs hsn hys
  go_enter Try.func54, Try.ntmps54
  go_wp2_with fail
  go_loopw [11, 2, 8] (fun iv lv _ wr => SsI w N v (atO xs) ks ps m iv lv wr) (fun i _ _ _ => m - (intOf i).toNat)
  case atStart => exact ⟨⟨0, by omega, rfl, HO.out⟩, ⟨rfl, rfl, rfl, Nat.le_refl _, fun _ _ _ => rfl⟩, .inl rfl⟩
  case round =>
    obtain ⟨⟨i, hi, rfl, ho⟩, hg, hlo⟩ := hrel
    obtain ⟨qs, hqs⟩ : ∃ y, strkA (atO xs) (ks.take i) ps = y := ⟨_, rfl⟩
    rw [hqs] at ho
    obtain ⟨va, vc, rfl, -⟩ := ho.form
    have HQS : Hid (strkA (atO xs) (ks.take i) ps = qs) := hqs
    have HOI : Hid (OwnL EN N wr (.slice va qs.length vc) qs) := ho
    have HG : Hid (w.grownBy wr v.ownBlock) := hg
    have HLO : Hid ((Value.slice va qs.length vc).ownBlock = v.ownBlock ∨ (Value.slice va qs.length vc).ownBlock = none) := hlo
    obtain ⟨ql, hql⟩ : ∃ y, qs.length = y := ⟨_, rfl⟩
    rw [hql] at HOI HLO
    rw [hql]
    obtain ⟨wz, hwz⟩ : ∃ y, wr = y := ⟨_, rfl⟩
    rw [hwz] at HOI HG ⊢
    clear hqs ho hg hlo hql hwz
    by_cases hlt : i < m
    case neg =>
      have hii : ¬ (i : Int) < (m : Int) := by omega
      have HE : Hid (SkPost w N v ys (.returned (.slice va ql vc)) wz) := by
        have h5 := HQS.out
        rw [List.take_of_length_le (by have := HKM.out; omega), HYS.out] at h5
        have h6 := HOI.out
        rw [← h5] at h6
        exact ⟨_, rfl, h6, HG.out, HLO.out⟩
      go_wp2_with fail
      go_ret
      exact HE.out
    have hik : i < ks.length := by rw [HKM.out]; exact hlt
    have hii : (i : Int) < (m : Int) := by omega
    have ii0 : (0 : Int) ≤ (i : Int) := by omega
    obtain ⟨k, hk⟩ : ∃ y, ks[i] = y := ⟨_, rfl⟩
    have hk8 : k < 8 := HKS.out k (hk ▸ List.getElem_mem hik)
    have c0 := HS.out i hik
    rw [hk] at c0
    have c1 : wz.cell? ⟨sb, i, none⟩ = some (fvK k) := by
      have h5 : sb < w.heap.size := World.block_lt_of_cell? w _ c0
      rw [← c0]
      exact World.cell?_of_block (w := w) (HG.out.block sb h5 (fun e => HSN.out e.symm))
    have hbel : Below N w wz := gr_bel HG.out HNN.out HO.out
    have HCA := strike_any k hk8 la n lc xs HXN.out N (.slice va ql vc) qs (fun x hx => HIN.out x ((strkA_sub (atO xs) (ks.take i) ps).subset (by rw [HQS.out]; exact hx))) wz (Nat.le_trans HNN.out hbel.size) (HX.out.bel hbel) HOI.out _ rfl
    have HNX : Hid (strkA (atO xs) (ks.take (i + 1)) ps = strkP (atO xs) k qs) := by show _ = _; rw [strkA_next hik, HQS.out, hk]
    obtain ⟨fv, hfv⟩ : ∃ y, fvK k = y := ⟨_, rfl⟩
    rw [hfv] at c1 HCA
    clear hk c0 hbel hfv hk8
    go_wp2_with fail
    refine HCA.mono ?_
    rintro e W2 ⟨v', rfl, ho2, hg2, hl2⟩
    have HE : Hid (SsI w N v (atO xs) ks ps m (.int .i64 ((i + 1 : Nat) : Int)) v' W2) := by
      refine ⟨⟨i + 1, by omega, rfl, by rw [HNX.out]; exact ho2⟩, ?_, ?_⟩
      · refine HG.out.andThen hg2 (fun j e => .inr ?_)
        rcases HLO.out with c | c
        · exact c.symm.trans e
        · rw [c] at e; cases e
      · rcases hl2 with c | c
        · rcases HLO.out with d | d
          · exact .inl (c.trans d)
          · exact .inr (c.trans d)
        · exact .inr c
    clear ho2 hg2 hl2 HCA c1
    go_wp2_with fail
    refine ⟨?_, ?_⟩
    · first | exact HE.out | simpa using HE.out
    · simp [intOf]
      omega
end Go.Proofs.Ytkahjibdmhaglaa.Ch
