/- DeleteFunc. -/
import Derived.Test.YtkahjibdmhaglaaChC
namespace Go.Proofs.Ytkahjibdmhaglaa.Ch
open Go.ChangeShapes Go.WideShapes Go.ChangeAt Go.RowKit Go.Joins Go.Deep Go.Proofs.Ytkahjibdmhaglaa.Ge
set_option linter.unusedVariables false
set_option linter.unusedSimpArgs false

theorem ko_dn {w W : World} {g : Nat} (h : Ko w g W) (q : Nat) : Ko w g (W.drewN q) := ⟨h.str.trans ⟨rfl, rfl, rfl, Nat.le_refl _, fun _ _ => rfl⟩, h.size, h.block⟩
theorem ko_cells (g : Nat) : ∀ (vs : List Value) (off : Nat) (W : World), Ko W g (W.setCells g off vs)
  | [], _, W => Ko.refl W g
  | v :: r, off, W => (Ko.set W g off v).trans (ko_cells g r (off + 1) _)
theorem cells_set {e : TypeId} (g : Nat) : ∀ (vs : List Value) (off : Nat) (W : World) (cur : Array Value), W.heap[g]? = some (Obj.cells cur e) → ∃ cur', (W.setCells g off vs).heap[g]? = some (Obj.cells cur' e) ∧ cur'.size = cur.size ∧ ∀ j, j < off → cur'[j]? = cur[j]?
  | [], _, W, cur, h => ⟨cur, h, rfl, fun _ _ => rfl⟩
  | v :: r, off, W, cur, h => by
    have h2 := heap_setCell_same W g off cur e v h
    obtain ⟨cur', h3, h4, h5⟩ := cells_set g r (off + 1) (W.setCell ⟨g, off, none⟩ v) _ h2
    refine ⟨cur', h3, by rw [h4]; simp, fun j hj => ?_⟩
    rw [h5 j (by omega), Array.getElem?_setIfInBounds_ne (by omega)]
theorem cs_EN (xs : List Nat) : EN.cs xs = xs.map (fun (x : Nat) => Value.int .i64 (x : Int)) := by
  induction xs with
  | nil => rfl
  | cons x xs ih =>
    show [Value.int .i64 (x : Int)] ++ EN.cs xs = _
    rw [ih]
    rfl
/-- the rest of a list is cleared, and the list cut -/
theorem own_cut {N : Nat} {W : World} {g n cap i : Nat} {cs : List Nat} (h : OwnL EN N W (.slice (some ⟨g, 0, none⟩) n cap) cs) (hi : i ≤ n) (vs : List Value) : OwnL EN N (W.setCells g i vs) (.slice (some ⟨g, 0, none⟩) i cap) (cs.take i) := by
  rcases h.row.2 with ⟨h1, h2⟩ | ⟨g', c, cur, h1, h2, h3, h4, h5, h6, h7⟩
  · cases h1
  · cases h1
    obtain ⟨cur', e1, e2, e3⟩ := cells_set g vs i W cur h3
    have hl : (cs.take i).length = i := by rw [List.length_take]; omega
    refine ⟨by rw [cs_len], .inr ⟨g, cap, cur', by rw [hl], h2, e1, by rw [hl]; omega, h5, by rw [e2]; exact h6, ?_⟩⟩
    have hk : EN.k = 1 := rfl
    rw [hk, Nat.mul_one] at h7
    rw [hl, hk, Nat.mul_one]
    have h8 : EN.cs (cs.take i) = (EN.cs cs).take i := by rw [cs_EN, cs_EN, List.map_take]
    rw [h8, ← h7, List.take_take, Nat.min_eq_left hi]
    apply List.ext_getElem?
    intro j
    rw [List.getElem?_take, List.getElem?_take]
    split
    · rename_i hj
      have := e3 j hj
      simpa using this
    · rfl
theorem lst_if {W : World} {g n cap : Nat} {cs : List Nat} {N : Nat} (h : OwnL EN N W (.slice (some ⟨g, 0, none⟩) n cap) cs) (j : Nat) (hj : j < cs.length) : W.cell? ⟨g, j, none⟩ = some (.int .i64 (cs[j] : Int)) := by
  have h5 := h.at0.1 j hj 0 (by decide)
  have e1 : EN.k = 1 := rfl
  rw [e1, Nat.mul_one] at h5
  exact h5
structure DlI (w : World) (g N n cap : Nat) (del : Nat → Bool) (ps : List Nat) (jv iv : Value) (W : World) : Prop where
  at_ : ∃ (j i : Nat) (cs : List Nat), j ≤ n ∧ i < j ∧ jv = .int .i64 (j : Int) ∧ iv = .int .i64 (i : Int) ∧ OwnL EN N W (.slice (some ⟨g, 0, none⟩) n cap) cs ∧ cs.take i = (ps.take j).filter (fun x => !del x) ∧ cs.drop j = ps.drop j
  ko : Ko w g W
theorem filt_next {del : Nat → Bool} {ps : List Nat} {j : Nat} (h : j < ps.length) : (ps.take (j + 1)).filter (fun x => !del x) = (ps.take j).filter (fun x => !del x) ++ (if del ps[j] = true then [] else [ps[j]]) := by
  rw [(List.take_append_getElem h).symm, List.filter_append]
  congr 1
  cases hd : del ps[j] <;> simp [List.filter, hd]
theorem set_take {cs : List Nat} {i : Nat} (h : i < cs.length) (y : Nat) : (cs.set i y).take (i + 1) = cs.take i ++ [y] := by
  rw [(List.take_append_getElem (by rw [List.length_set]; exact h)).symm, List.getElem_set_self, List.take_set_of_le (Nat.le_refl _)]
/-- what DeleteFunc answers -/
def DlPost (w : World) (N g cap : Nat) (ys : List Nat) (e : Ending) (w' : World) : Prop := e = .returned (.slice (some ⟨g, 0, none⟩) ys.length cap) ∧ OwnL EN N w' (.slice (some ⟨g, 0, none⟩) ys.length cap) ys ∧ Ko w g w'
set_option maxRecDepth 100000 in
set_option maxHeartbeats 8000000 in
theorem del81_any (c1 c2 c3 : Value) (del : Nat → Bool) (N g n cap : Nat) (ps : List Nat) (hn : ps.length = n) (w : World) (h : OwnL EN N w (.slice (some ⟨g, 0, none⟩) n cap) ps) (hd : ∀ W, Ko w g W → ∀ i ∈ ps, Calls Try.prog 81 #[.int .i64 (i : Int), c1, c2, c3] W fun e w' => e = .returned (.bool (del i)) ∧ ∃ m, w' = W.drewN m) (ys : List Nat) (hys : ps.filter (fun x => !del x) = ys) : Calls Try.prog 70 #[.slice (some ⟨g, 0, none⟩) n cap, .func (.func 81) #[] #[c1, c2, c3]] w (DlPost w N g cap ys) := by
  have H : Hid (OwnL EN N w (.slice (some ⟨g, 0, none⟩) n cap) ps) := h
  have HN : Hid (ps.length = n) := hn
  have HD : Hid (∀ W, Ko w g W → ∀ i ∈ ps, Calls Try.prog 81 #[.int .i64 (i : Int), c1, c2, c3] W fun e w' => e = .returned (.bool (del i)) ∧ ∃ m, w' = W.drewN m) := hd
  have HYS : Hid (ps.filter (fun x => !del x) = ys) := hys
  have hsm := h.lst.1.small
  rw [hn] at hsm
  have hcap : n ≤ cap := by
    obtain ⟨a, c, e, hc, -⟩ := h.form
    cases e
    omega
  have hcm : cap ≤ 9223372036854775807 := by
    rcases h.row.2 with ⟨h1, h2⟩ | ⟨g', c, cur, h1, h2, h3, h4, h5, h6, h7⟩
    · cases h1
    · cases h1
      unfold maxLen at h5
      omega
  have HIX := idx81_any c1 c2 c3 del (some ⟨g, 0, none⟩) n cap ps hn w h.lst.1 (fun q i hi => hd _ (ko_dn (Ko.refl w g) q) i hi)
  clear h hn hd hys
  go_enter Try.func70, Try.ntmps70
  go_wp2_with fail
  refine HIX.mono ?_
  rintro e W1 ⟨rfl, q1, hw1⟩
  have HK1 : Hid (Ko w g W1) := by rw [hw1]; exact ko_dn (Ko.refl w g) q1
  have HO1 : Hid (OwnL EN N W1 (.slice (some ⟨g, 0, none⟩) n cap) ps) := by rw [hw1]; exact H.out.blk (fun _ _ => rfl)
  clear hw1 HIX
  rcases ix_cases del ps with ⟨hz, hno⟩ | ⟨i0, hi0, hz, hdi, hno⟩
  case inl =>
    rw [hz]
    have HE : Hid (DlPost w N g cap ys (.returned (.slice (some ⟨g, 0, none⟩) n cap)) W1) := by
      have e1 : ps = ys := by
        rw [← HYS.out]
        exact (List.filter_eq_self.2 (fun x hx => by rw [hno x hx]; rfl)).symm
      have h5 := HO1.out
      have h6 := HN.out
      subst e1
      rw [← h6] at h5 ⊢
      exact ⟨rfl, h5, HK1.out⟩
    clear hz hno
    go_wp2_with fail
    go_ret
    exact HE.out
  case inr =>
    rw [hz]
    have hi1 : ¬ (i0 : Int) = -1 := by omega
    have hi2 : ((i0 : Int) == -1) = false := beq_false_of_ne hi1
    have hin : i0 < n := by rw [← HN.out]; exact hi0
    have HF0 : Hid (ps.take i0 = (ps.take (i0 + 1)).filter (fun x => !del x)) := by
      show _ = _
      rw [filt_next hi0, if_pos hdi, List.append_nil]
      exact (List.filter_eq_self.2 (fun x hx => by rw [hno x hx]; rfl)).symm
    have hw0 : IntKind.i64.wrap ((i0 : Int) + 1) = ((i0 + 1 : Nat) : Int) := by rw [IntWalk.i64_in _ (by omega)]; omega
    have hw0' : wrap64 ((i0 : Int) + 1) = ((i0 + 1 : Nat) : Int) := by rw [IntWalk.wrap64_in _ (by omega)]; omega
    clear hz hno hi1
    go_wp2_with fail
    go_loopw [6, 5, 7] (fun jv iv _ wr => DlI w g N n cap del ps jv iv wr) (fun j _ _ _ => n - (intOf j).toNat)
    case atStart => exact ⟨⟨i0 + 1, i0, ps, by omega, by omega, by first | rfl | simp, rfl, HO1.out, HF0.out, rfl⟩, HK1.out⟩
    case round =>
      obtain ⟨⟨j, i, cs, hj, hij, rfl, rfl, ho, ht, hdr⟩, hko⟩ := hrel
      clear hw0 hw0'
      have HO : Hid (OwnL EN N wr (.slice (some ⟨g, 0, none⟩) n cap) cs) := ho
      have HCN : Hid (cs.length = n) := ho.lst.2
      have HT : Hid (cs.take i = (ps.take j).filter (fun x => !del x)) := ht
      have HDR : Hid (cs.drop j = ps.drop j) := hdr
      have HK : Hid (Ko w g wr) := hko
      obtain ⟨wz, hwz⟩ : ∃ y, wr = y := ⟨_, rfl⟩
      rw [hwz] at HO HK ⊢
      clear hwz ho ht hdr hko HO1 HK1 HF0
      have ii0 : (0 : Int) ≤ (i : Int) := by omega
      by_cases hlt : j < n
      case pos =>
        have hjl : j < ps.length := by rw [HN.out]; exact hlt
        have hjc : j < cs.length := by rw [HCN.out]; exact hlt
        have hjj : (j : Int) < (n : Int) := by omega
        have jj0 : (0 : Int) ≤ (j : Int) := by omega
        have hii : (i : Int) < (n : Int) := by omega
        obtain ⟨y, hy⟩ : ∃ y, ps[j] = y := ⟨_, rfl⟩
        have hcy : cs[j] = y := by
          have h5 := congrArg List.head? HDR.out
          rw [List.head?_drop, List.head?_drop, List.getElem?_eq_getElem hjc, List.getElem?_eq_getElem hjl, hy] at h5
          exact Option.some.inj h5
        have k1 : wz.cell? ⟨g, j, none⟩ = some (.int .i64 (y : Int)) := by rw [← hcy]; exact lst_if HO.out j hjc
        have HFN : Hid ((ps.take (j + 1)).filter (fun x => !del x) = cs.take i ++ (if del y = true then [] else [y])) := by show _ = _; rw [filt_next hjl, ← HT.out, hy]
        have HD2 : Hid (cs.drop (j + 1) = ps.drop (j + 1)) := by
          have h5 := congrArg List.tail HDR.out
          rw [List.tail_drop, List.tail_drop] at h5
          exact h5
        have HCA := HD.out wz HK.out y (hy ▸ List.getElem_mem hjl)
        clear hy hcy
        go_wp2_with fail
        refine HCA.mono ?_
        rintro e W2 ⟨rfl, q2, hw2⟩
        have HO2 : Hid (OwnL EN N W2 (.slice (some ⟨g, 0, none⟩) n cap) cs) := by rw [hw2]; exact HO.out.blk (fun _ _ => rfl)
        have HK2 : Hid (Ko w g W2) := by rw [hw2]; exact ko_dn HK.out q2
        obtain ⟨t, htt⟩ : ∃ y', del y = y' := ⟨_, rfl⟩
        rw [htt] at HFN ⊢
        clear hw2 HCA htt k1 HO HK HT HDR
        cases t
        case true =>
          rw [if_pos rfl, List.append_nil] at HFN
          go_wp2_with fail
          refine ⟨⟨⟨j + 1, i, cs, by omega, by omega, by simp, rfl, HO2.out, HFN.out.symm, HD2.out⟩, HK2.out⟩, ?_⟩
          simp [intOf]
          omega
        case false =>
          rw [if_neg (by decide)] at HFN
          have hil : i < cs.length := by rw [HCN.out]; omega
          have k2 : W2.cell? ⟨g, i, none⟩ = some (.int .i64 (cs[i] : Int)) := lst_if HO2.out i hil
          have f2 : W2.frozen? ⟨g, i, none⟩ = false := HO2.out.at0.2.1 i
          have HO3 : Hid (OwnL EN N (W2.setCell ⟨g, i, none⟩ (.int .i64 (y : Int))) (.slice (some ⟨g, 0, none⟩) n cap) (cs.set i y)) := by
            have h5 := HO2.out.setc hil (j := 0) (by decide) (.int .i64 (y : Int)) y rfl
            have e1 : EN.k = 1 := rfl
            rw [e1, Nat.mul_one] at h5
            exact h5
          have HK3 : Hid (Ko w g (W2.setCell ⟨g, i, none⟩ (.int .i64 (y : Int)))) := HK2.out.trans (Ko.set _ _ _ _)
          have HT3 : Hid ((cs.set i y).take (i + 1) = (ps.take (j + 1)).filter (fun x => !del x)) := by show _ = _; rw [set_take hil, HFN.out]
          have HD3 : Hid ((cs.set i y).drop (j + 1) = ps.drop (j + 1)) := by show _ = _; rw [List.drop_set_of_lt (by omega), HD2.out]
          have hw1' : wrap64 ((i : Int) + 1) = ((i + 1 : Nat) : Int) := by rw [IntWalk.wrap64_in _ (by omega)]; omega
          have hw2' : IntKind.i64.wrap ((i : Int) + 1) = ((i + 1 : Nat) : Int) := by rw [IntWalk.i64_in _ (by omega)]; omega
          generalize cs[i] = ci at k2
          clear HO2 HK2 HFN HD2 hil
          go_wp2_with fail
          refine ⟨⟨⟨j + 1, i + 1, cs.set i y, by omega, by omega, by simp, by first | rfl | simp, HO3.out, HT3.out, HD3.out⟩, HK3.out⟩, ?_⟩
          simp [intOf]
          omega
      case neg =>
        have hjj : ¬ (j : Int) < (n : Int) := by omega
        have hin2 : i < n := by omega
        have HYL : Hid (cs.take i = ys ∧ ys.length = i) := by
          have h5 := HT.out
          have h6 : ps.take j = ps := List.take_of_length_le (by have := HN.out; omega)
          rw [h6, HYS.out] at h5
          refine ⟨h5, ?_⟩
          rw [← h5, List.length_take, HCN.out]
          omega
        have hcl : ∀ ty, (Builtin.clear_ #[24] ty #[.slice (some ⟨g, i, none⟩) (n - i) (cap - i)]).run Try.prog wz = .ok (.tuple #[]) (wz.setCells g i (List.replicate (n - i) (.int .i64 0))) := fun ty =>
          Lib.run_clear_slice wz _ _ ty _ Try.underlying24 (fun _ => rfl) rfl rfl g i _ _ (by omega) (fun m hm => by rw [lst_if HO.out (i + m) (by rw [HCN.out]; omega)]; rfl) (fun m hm => HO.out.at0.2.1 (i + m))
        have HOE : Hid (OwnL EN N (wz.setCells g i (List.replicate (n - i) (.int .i64 0))) (.slice (some ⟨g, 0, none⟩) i cap) (cs.take i)) := own_cut HO.out (by omega) _
        have HKE : Hid (Ko w g (wz.setCells g i (List.replicate (n - i) (.int .i64 0)))) := HK.out.trans (ko_cells g _ i wz)
        have g1 : (i : Int) ≤ (n : Int) := by omega
        have g2 : (i : Int) ≤ (cap : Int) := by omega
        have g3 : ¬ cap = i := by omega
        have HF : Hid (DlPost w N g cap ys (.returned (.slice (some ⟨g, 0, none⟩) i cap)) (wz.setCells g i (List.replicate (n - i) (.int .i64 0)))) := by
          have h5 := HOE.out
          rw [HYL.out.1] at h5
          have h6 := HYL.out.2
          rw [← h6] at h5 ⊢
          rw [h6] at h5 ⊢
          refine ⟨by rw [h6], by rw [h6]; exact h5, ?_⟩
          exact HKE.out
        clear HO HK HT HDR HOE HKE HYL
        go_wp2_with fail
        go_ret
        exact HF.out
set_option maxRecDepth 100000 in
set_option maxHeartbeats 8000000 in
theorem del71_any (c1 c2 : Value) (del : Nat → Bool) (N g n cap : Nat) (ps : List Nat) (hn : ps.length = n) (w : World) (h : OwnL EN N w (.slice (some ⟨g, 0, none⟩) n cap) ps) (hd : ∀ W, Ko w g W → ∀ i ∈ ps, Calls Try.prog 71 #[.int .i64 (i : Int), c1, c2] W fun e w' => e = .returned (.bool (del i)) ∧ ∃ m, w' = W.drewN m) (ys : List Nat) (hys : ps.filter (fun x => !del x) = ys) : Calls Try.prog 70 #[.slice (some ⟨g, 0, none⟩) n cap, .func (.func 71) #[] #[c1, c2]] w (DlPost w N g cap ys) := by
  have H : Hid (OwnL EN N w (.slice (some ⟨g, 0, none⟩) n cap) ps) := h
  have HN : Hid (ps.length = n) := hn
  have HD : Hid (∀ W, Ko w g W → ∀ i ∈ ps, Calls Try.prog 71 #[.int .i64 (i : Int), c1, c2] W fun e w' => e = .returned (.bool (del i)) ∧ ∃ m, w' = W.drewN m) := hd
  have HYS : Hid (ps.filter (fun x => !del x) = ys) := hys
  have hsm := h.lst.1.small
  rw [hn] at hsm
  have hcap : n ≤ cap := by
    obtain ⟨a, c, e, hc, -⟩ := h.form
    cases e
    omega
  have hcm : cap ≤ 9223372036854775807 := by
    rcases h.row.2 with ⟨h1, h2⟩ | ⟨g', c, cur, h1, h2, h3, h4, h5, h6, h7⟩
    · cases h1
    · cases h1
      unfold maxLen at h5
      omega
  have HIX := idx71_any c1 c2 del (some ⟨g, 0, none⟩) n cap ps hn w h.lst.1 (fun q i hi => hd _ (ko_dn (Ko.refl w g) q) i hi)
  clear h hn hd hys
  go_enter Try.func70, Try.ntmps70
  go_wp2_with fail
  refine HIX.mono ?_
  rintro e W1 ⟨rfl, q1, hw1⟩
  have HK1 : Hid (Ko w g W1) := by rw [hw1]; exact ko_dn (Ko.refl w g) q1
  have HO1 : Hid (OwnL EN N W1 (.slice (some ⟨g, 0, none⟩) n cap) ps) := by rw [hw1]; exact H.out.blk (fun _ _ => rfl)
  clear hw1 HIX
  rcases ix_cases del ps with ⟨hz, hno⟩ | ⟨i0, hi0, hz, hdi, hno⟩
  case inl =>
    rw [hz]
    have HE : Hid (DlPost w N g cap ys (.returned (.slice (some ⟨g, 0, none⟩) n cap)) W1) := by
      have e1 : ps = ys := by
        rw [← HYS.out]
        exact (List.filter_eq_self.2 (fun x hx => by rw [hno x hx]; rfl)).symm
      have h5 := HO1.out
      have h6 := HN.out
      subst e1
      rw [← h6] at h5 ⊢
      exact ⟨rfl, h5, HK1.out⟩
    clear hz hno
    go_wp2_with fail
    go_ret
    exact HE.out
  case inr =>
    rw [hz]
    have hi1 : ¬ (i0 : Int) = -1 := by omega
    have hi2 : ((i0 : Int) == -1) = false := beq_false_of_ne hi1
    have hin : i0 < n := by rw [← HN.out]; exact hi0
    have HF0 : Hid (ps.take i0 = (ps.take (i0 + 1)).filter (fun x => !del x)) := by
      show _ = _
      rw [filt_next hi0, if_pos hdi, List.append_nil]
      exact (List.filter_eq_self.2 (fun x hx => by rw [hno x hx]; rfl)).symm
    have hw0 : IntKind.i64.wrap ((i0 : Int) + 1) = ((i0 + 1 : Nat) : Int) := by rw [IntWalk.i64_in _ (by omega)]; omega
    have hw0' : wrap64 ((i0 : Int) + 1) = ((i0 + 1 : Nat) : Int) := by rw [IntWalk.wrap64_in _ (by omega)]; omega
    clear hz hno hi1
    go_wp2_with fail
    go_loopw [6, 5, 7] (fun jv iv _ wr => DlI w g N n cap del ps jv iv wr) (fun j _ _ _ => n - (intOf j).toNat)
    case atStart => exact ⟨⟨i0 + 1, i0, ps, by omega, by omega, by first | rfl | simp, rfl, HO1.out, HF0.out, rfl⟩, HK1.out⟩
    case round =>
      obtain ⟨⟨j, i, cs, hj, hij, rfl, rfl, ho, ht, hdr⟩, hko⟩ := hrel
      clear hw0 hw0'
      have HO : Hid (OwnL EN N wr (.slice (some ⟨g, 0, none⟩) n cap) cs) := ho
      have HCN : Hid (cs.length = n) := ho.lst.2
      have HT : Hid (cs.take i = (ps.take j).filter (fun x => !del x)) := ht
      have HDR : Hid (cs.drop j = ps.drop j) := hdr
      have HK : Hid (Ko w g wr) := hko
      obtain ⟨wz, hwz⟩ : ∃ y, wr = y := ⟨_, rfl⟩
      rw [hwz] at HO HK ⊢
      clear hwz ho ht hdr hko HO1 HK1 HF0
      have ii0 : (0 : Int) ≤ (i : Int) := by omega
      by_cases hlt : j < n
      case pos =>
        have hjl : j < ps.length := by rw [HN.out]; exact hlt
        have hjc : j < cs.length := by rw [HCN.out]; exact hlt
        have hjj : (j : Int) < (n : Int) := by omega
        have jj0 : (0 : Int) ≤ (j : Int) := by omega
        have hii : (i : Int) < (n : Int) := by omega
        obtain ⟨y, hy⟩ : ∃ y, ps[j] = y := ⟨_, rfl⟩
        have hcy : cs[j] = y := by
          have h5 := congrArg List.head? HDR.out
          rw [List.head?_drop, List.head?_drop, List.getElem?_eq_getElem hjc, List.getElem?_eq_getElem hjl, hy] at h5
          exact Option.some.inj h5
        have k1 : wz.cell? ⟨g, j, none⟩ = some (.int .i64 (y : Int)) := by rw [← hcy]; exact lst_if HO.out j hjc
        have HFN : Hid ((ps.take (j + 1)).filter (fun x => !del x) = cs.take i ++ (if del y = true then [] else [y])) := by show _ = _; rw [filt_next hjl, ← HT.out, hy]
        have HD2 : Hid (cs.drop (j + 1) = ps.drop (j + 1)) := by
          have h5 := congrArg List.tail HDR.out
          rw [List.tail_drop, List.tail_drop] at h5
          exact h5
        have HCA := HD.out wz HK.out y (hy ▸ List.getElem_mem hjl)
        clear hy hcy
        go_wp2_with fail
        refine HCA.mono ?_
        rintro e W2 ⟨rfl, q2, hw2⟩
        have HO2 : Hid (OwnL EN N W2 (.slice (some ⟨g, 0, none⟩) n cap) cs) := by rw [hw2]; exact HO.out.blk (fun _ _ => rfl)
        have HK2 : Hid (Ko w g W2) := by rw [hw2]; exact ko_dn HK.out q2
        obtain ⟨t, htt⟩ : ∃ y', del y = y' := ⟨_, rfl⟩
        rw [htt] at HFN ⊢
        clear hw2 HCA htt k1 HO HK HT HDR
        cases t
        case true =>
          rw [if_pos rfl, List.append_nil] at HFN
          go_wp2_with fail
          refine ⟨⟨⟨j + 1, i, cs, by omega, by omega, by simp, rfl, HO2.out, HFN.out.symm, HD2.out⟩, HK2.out⟩, ?_⟩
          simp [intOf]
          omega
        case false =>
          rw [if_neg (by decide)] at HFN
          have hil : i < cs.length := by rw [HCN.out]; omega
          have k2 : W2.cell? ⟨g, i, none⟩ = some (.int .i64 (cs[i] : Int)) := lst_if HO2.out i hil
          have f2 : W2.frozen? ⟨g, i, none⟩ = false := HO2.out.at0.2.1 i
          have HO3 : Hid (OwnL EN N (W2.setCell ⟨g, i, none⟩ (.int .i64 (y : Int))) (.slice (some ⟨g, 0, none⟩) n cap) (cs.set i y)) := by
            have h5 := HO2.out.setc hil (j := 0) (by decide) (.int .i64 (y : Int)) y rfl
            have e1 : EN.k = 1 := rfl
            rw [e1, Nat.mul_one] at h5
            exact h5
          have HK3 : Hid (Ko w g (W2.setCell ⟨g, i, none⟩ (.int .i64 (y : Int)))) := HK2.out.trans (Ko.set _ _ _ _)
          have HT3 : Hid ((cs.set i y).take (i + 1) = (ps.take (j + 1)).filter (fun x => !del x)) := by show _ = _; rw [set_take hil, HFN.out]
          have HD3 : Hid ((cs.set i y).drop (j + 1) = ps.drop (j + 1)) := by show _ = _; rw [List.drop_set_of_lt (by omega), HD2.out]
          have hw1' : wrap64 ((i : Int) + 1) = ((i + 1 : Nat) : Int) := by rw [IntWalk.wrap64_in _ (by omega)]; omega
          have hw2' : IntKind.i64.wrap ((i : Int) + 1) = ((i + 1 : Nat) : Int) := by rw [IntWalk.i64_in _ (by omega)]; omega
          generalize cs[i] = ci at k2
          clear HO2 HK2 HFN HD2 hil
          go_wp2_with fail
          refine ⟨⟨⟨j + 1, i + 1, cs.set i y, by omega, by omega, by simp, by first | rfl | simp, HO3.out, HT3.out, HD3.out⟩, HK3.out⟩, ?_⟩
          simp [intOf]
          omega
      case neg =>
        have hjj : ¬ (j : Int) < (n : Int) := by omega
        have hin2 : i < n := by omega
        have HYL : Hid (cs.take i = ys ∧ ys.length = i) := by
          have h5 := HT.out
          have h6 : ps.take j = ps := List.take_of_length_le (by have := HN.out; omega)
          rw [h6, HYS.out] at h5
          refine ⟨h5, ?_⟩
          rw [← h5, List.length_take, HCN.out]
          omega
        have hcl : ∀ ty, (Builtin.clear_ #[24] ty #[.slice (some ⟨g, i, none⟩) (n - i) (cap - i)]).run Try.prog wz = .ok (.tuple #[]) (wz.setCells g i (List.replicate (n - i) (.int .i64 0))) := fun ty =>
          Lib.run_clear_slice wz _ _ ty _ Try.underlying24 (fun _ => rfl) rfl rfl g i _ _ (by omega) (fun m hm => by rw [lst_if HO.out (i + m) (by rw [HCN.out]; omega)]; rfl) (fun m hm => HO.out.at0.2.1 (i + m))
        have HOE : Hid (OwnL EN N (wz.setCells g i (List.replicate (n - i) (.int .i64 0))) (.slice (some ⟨g, 0, none⟩) i cap) (cs.take i)) := own_cut HO.out (by omega) _
        have HKE : Hid (Ko w g (wz.setCells g i (List.replicate (n - i) (.int .i64 0)))) := HK.out.trans (ko_cells g _ i wz)
        have g1 : (i : Int) ≤ (n : Int) := by omega
        have g2 : (i : Int) ≤ (cap : Int) := by omega
        have g3 : ¬ cap = i := by omega
        have HF : Hid (DlPost w N g cap ys (.returned (.slice (some ⟨g, 0, none⟩) i cap)) (wz.setCells g i (List.replicate (n - i) (.int .i64 0)))) := by
          have h5 := HOE.out
          rw [HYL.out.1] at h5
          have h6 := HYL.out.2
          rw [← h6] at h5 ⊢
          rw [h6] at h5 ⊢
          refine ⟨by rw [h6], by rw [h6]; exact h5, ?_⟩
          exact HKE.out
        clear HO HK HT HDR HOE HKE HYL
        go_wp2_with fail
        go_ret
        exact HF.out
end Go.Proofs.Ytkahjibdmhaglaa.Ch
