/- ChooseBests' law. -/
import Derived.Test.YtkahjibdmhaglaaChCe
import Derived.Test.YtkahjibdmhaglaaChBe
namespace Go.Proofs.Ytkahjibdmhaglaa.Ch
open Go.ChangeShapes Go.WideShapes Go.ChangeAt Go.RowKit Go.Joins Go.Deep Go.Proofs.Ytkahjibdmhaglaa.Ge
set_option linter.unusedVariables false
set_option linter.unusedSimpArgs false

/-- a row of ints that can be written -/
structure WrL (N : Nat) (a : Option Addr) (m : Nat) (W0 W : World) : Prop where
  bel : Below N W0 W
  th : ∀ i, i < m → ∃ g u, a = some ⟨g, 0, none⟩ ∧ N ≤ g ∧ W.cell? ⟨g, i, none⟩ = some u ∧ W.frozen? ⟨g, i, none⟩ = false
  blk : ∀ b, (∀ g, a = some ⟨g, 0, none⟩ → m ≠ 0 → b ≠ g) → W.heap[b]? = W0.heap[b]?
  size : W.heap.size = W0.heap.size
theorem WrL.set {N g m : Nat} {W0 W : World} (h : WrL N (some ⟨g, 0, none⟩) m W0 W) (hg : N ≤ g) (hm : m ≠ 0) (i : Nat) (v : Value) : WrL N (some ⟨g, 0, none⟩) m W0 (W.setCell ⟨g, i, none⟩ v) := ⟨h.bel.trans ((Ko.set W g i v).below hg), fun k hk => by
  obtain ⟨g', u, e0, h0, h1, h2⟩ := h.th k hk
  cases e0
  by_cases e : i = k
  · subst e
    exact ⟨g, v, rfl, hg, World.cell?_setCell_same _ _ _ h1, by rw [World.frozen?_setCell]; exact h2⟩
  · exact ⟨g, u, rfl, hg, by rw [World.cell?_setCell_other _ _ _ _ (by intro e'; simp only [Addr.mk.injEq] at e'; omega)]; exact h1, by rw [World.frozen?_setCell]; exact h2⟩, fun b hb => ((Ko.set W g i v).block b (hb g rfl hm)).trans (h.blk b hb), (Ko.set W g i v).size.trans h.size⟩
theorem WrL.row {N m : Nat} {a : Option Addr} {ps : List Nat} {W : World} (hr : m = 0 ∨ ∃ g, a = some ⟨g, 0, none⟩ ∧ N ≤ g ∧ RowN g ps W) (hpm : ps.length = m) : WrL N a m W W := ⟨Below.refl _ _, fun i hi => by
  rcases hr with h | ⟨g, e, hg, h⟩
  · omega
  · exact ⟨g, _, e, hg, (h.at_ i (by omega)).1, (h.at_ i (by omega)).2⟩, fun _ _ => rfl, rfl⟩
theorem row_blk {g : Nat} {ps : List Nat} {w w' : World} (h : RowN g ps w) (hb : w'.heap[g]? = w.heap[g]?) (hs : w'.heap.size = w.heap.size) : RowN g ps w' := ⟨by rw [hs]; exact h.lt, fun i hi => by
  have h5 := h.at_ i hi
  unfold World.cell? World.frozen? at h5 ⊢
  rw [hb]
  exact h5⟩
theorem row_bel {N m : Nat} {a : Option Addr} {ps : List Nat} {W W' : World} (hr : m = 0 ∨ ∃ g, a = some ⟨g, 0, none⟩ ∧ N ≤ g ∧ RowN g ps W) (hb : Below W.heap.size W W') : m = 0 ∨ ∃ g, a = some ⟨g, 0, none⟩ ∧ N ≤ g ∧ RowN g ps W' := by
  rcases hr with h | ⟨g, e, hg, h⟩
  · exact .inl h
  · exact .inr ⟨g, e, hg, h.bel hb⟩
theorem own_row {N m c : Nat} {a : Option Addr} {ps : List Nat} {W : World} (h : OwnL EN N W (.slice a m c) ps) : m = 0 ∨ ∃ g, a = some ⟨g, 0, none⟩ ∧ N ≤ g ∧ RowN g ps W := by
  obtain ⟨a', c', e, -, h1, h2⟩ := h.form
  cases e
  cases a with
  | none => exact .inl (h1 rfl).1
  | some p =>
    obtain ⟨b, o, f⟩ := p
    rcases h.row.2 with ⟨q1, q2⟩ | ⟨g, c, cur, q1, q2, -⟩
    · cases q1
    · cases q1
      exact .inr ⟨_, rfl, q2, RowN.of_own h⟩
theorem ei_of {W : World} {a : Option Addr} {ps : List Nat} (h : Lst EN W a ps) : Lst EI W a (ps.map (fun (x : Nat) => (x : Int))) := ⟨by simpa using h.small, fun i hi => by
  obtain ⟨b, o, e, hl, hc⟩ := h.cells i (by simpa using hi)
  refine ⟨b, o, e, hl, fun j hj => ?_⟩
  have h5 := hc j hj
  rw [List.getElem_map]
  exact h5⟩
theorem ord_lst {N m : Nat} {a : Option Addr} {ps : List Nat} {W : World} (hr : m = 0 ∨ ∃ g, a = some ⟨g, 0, none⟩ ∧ N ≤ g ∧ RowN g ps W) (hpm : ps.length = m) (hs : m ≤ 1000) : Lst EN W a ps := by
  rcases hr with rfl | ⟨g, rfl, -, h⟩
  · exact ⟨by omega, fun i hi => absurd hi (by omega)⟩
  · exact h.lst (by omega)
theorem ord_doc {xs : List (Of × Oa)} {n : Nat} {ps : List Nat} (h : OrdR xs n ps) : ps.length ≤ n ∧ InN ps n ∧ (∀ k (hk : k < ps.length), bsP (atO xs) (psP (atO xs) n (inF (ps.take k))) = some ps[k]) ∧ bsP (atO xs) (psP (atO xs) n (inF ps)) = none := by
  have hp : ps.Perm (rchP (atO xs) n) := by
    obtain ⟨p1, h1, -, h2, -⟩ := h
    exact h2.trans h1
  have hnr : (rchP (atO xs) n).Nodup := List.nodup_range.sublist List.filter_sublist
  have hnd : ps.Nodup := hp.nodup_iff.2 hnr
  refine ⟨by rw [hp.length_eq]; exact rch_len _ _, fun i hi => rch_in _ _ i (hp.subset hi), fun k hk => ?_, ?_⟩
  · have e0 : ps.take k ++ ps[k] :: ps.drop (k + 1) = ps := by rw [← List.drop_eq_getElem_cons hk]; exact List.take_append_drop k ps
    obtain ⟨b, hb⟩ : ∃ y, ps[k] = y := ⟨_, rfl⟩
    rw [hb] at e0 ⊢
    have h2 := h
    rw [← e0] at h2
    have hc := ord_cond hnr h2
    have hnd2 := hnd
    rw [← e0] at hnd2
    have he : (fun x => x ∈ b :: ps.drop (k + 1)) = (fun x => x ∈ psP (atO xs) n (inF (ps.take k))) := funext fun x => propext (by
      unfold psP inF
      rw [List.mem_filter]
      have h3 : x ∈ rchP (atO xs) n ↔ x ∈ ps.take k ++ b :: ps.drop (k + 1) := by rw [e0]; exact hp.mem_iff.symm
      rw [h3, List.mem_append]
      constructor
      · intro hx
        refine ⟨.inr hx, ?_⟩
        have h4 : x ∉ ps.take k := fun c => (List.nodup_append.1 hnd2).2.2 x c x hx rfl
        simp [h4]
      · rintro ⟨h4 | h4, h5⟩
        · simp [h4] at h5
        · exact h4)
    rw [he] at hc
    exact cond_bs (ps_pw _ _ _) hc
  · have e1 : psP (atO xs) n (inF ps) = [] := by
      unfold psP inF
      rw [List.filter_eq_nil_iff]
      intro x hx
      have : x ∈ ps := hp.mem_iff.2 hx
      simp [this]
    rw [e1]
    rfl
theorem Cps.sl {N n : Nat} {W : World} {v : Value} {ys : List (Of × Oa)} (h : Cps N W v ys) (hl : ys.length = n) : ∃ a c, v = .slice a n c ∧ Gm.Lst EO W a ys ∧ (n ≠ 0 → ∃ g, a = some ⟨g, 0, none⟩ ∧ N ≤ g) := by
  rcases h.own.row.2 with ⟨h1, h2⟩ | ⟨g, c, cur, h1, h2, h3, h4⟩
  · subst h1
    rw [hl] at h2
    subst h2
    exact ⟨none, 0, rfl, h.own.lst.1, fun e => absurd rfl e⟩
  · rw [hl] at h1
    subst h1
    exact ⟨_, c, rfl, h.own.lst.1, fun _ => ⟨g, rfl, h2⟩⟩
theorem Cps.oks {N : Nat} {W : World} {v : Value} {ys : List (Of × Oa)} (h : Cps N W v ys) : ∀ q ∈ ys, OfOk W 1048576 q.1 q.2 := fun q hq => (h.ok q hq).ok (h.bd q hq)
theorem ordc_any {N n c : Nat} {W : World} {a : Option Addr} {ys : List (Of × Oa)} (h : Cps N W (.slice a n c) ys) (hl : ys.length = n) (hn : n ≤ 1000) (hz : n = 0 → Value.slice a n c = .slice none 0 0) : Calls Try.prog 7 #[.slice a n c] W (OrdPost W n ys) := by
  by_cases h0 : n = 0
  · rw [hz h0]
    refine (order_nil W).mono ?_
    rintro e w' ⟨a', c', rfl, hb⟩
    subst h0
    exact ⟨a', 0, c', [], rfl, rfl, ⟨[], List.Perm.refl _, List.Pairwise.nil, List.Perm.refl _, List.Pairwise.nil⟩, hb, .inl rfl⟩
  · obtain ⟨a', c', e, hL, hg⟩ := h.sl hl
    cases e
    obtain ⟨g, rfl, -⟩ := hg h0
    exact order_any g 0 n c ys hl (by omega) hn W (ofs_of2 hL h.oks)
set_option maxRecDepth 100000 in
set_option maxHeartbeats 32000000 in
theorem bests_any (la : Option Addr) (n lc : Nat) (xs : List (Of × Oa)) (hxn : xs.length = n) (w : World) (hx : Gm.Lst EO w la xs) (hok : ∀ q ∈ xs, OfOk w 1048576 q.1 q.2) : Calls Try.prog 3 #[.slice la n lc] w fun e w' => e = .returned (.bool true) ∧ Below w.heap.size w w' := by
  have HX : Hid (Gm.Lst EO w la xs) := hx
  have HN : Hid (xs.length = n) := hxn
  have HOK : Hid (∀ q ∈ xs, OfOk w 1048576 q.1 q.2) := hok
  have HXO : Hid (Ofs w.heap.size w la xs) := ofs_of2 hx hok
  clear hx hxn hok
  go_enter Try.func3, Try.ntmps3
  by_cases hn2 : 200 < n
  case pos =>
    have hnn : (200 : Int) < (n : Int) := by omega
    go_wp2_with fail
    go_ret
    exact ⟨rfl, Below.refl _ _⟩
  have hnn : ¬ (200 : Int) < (n : Int) := by omega
  go_wp2_with fail
  refine (ocs_any la n lc xs HN.out (by omega) w HX.out HOK.out).mono ?_
  rintro e w1 ⟨v1, ys, rfl, hm, hc1, hb1, hz⟩
  have hyl : ys.length = n := by
    have h5 := congrArg List.length hm
    rw [List.length_map, List.length_map] at h5
    rw [h5]; exact HN.out
  have HYL : Hid (ys.length = n) := hyl
  have HA : Hid (atO ys = atO xs) := funext (fun k => atO_map hm k)
  obtain ⟨va, vc, rfl, -, -⟩ := hc1.sl hyl
  have HC1 : Hid (Cps w.heap.size w1 (.slice va n vc) ys) := hc1
  have HB1 : Hid (Below w.heap.size w w1) := hb1
  have HM : Hid (ys.map Prod.fst = xs.map Prod.fst) := hm
  have HZ : Hid (n = 0 → Value.slice va n vc = .slice none 0 0) := fun e => hz (List.length_eq_zero_iff.1 (HN.out.trans e))
  clear hm hc1 hb1 hz hyl
  go_wp2_with fail
  go_loopw [14, 4, 5, 6, 7] (fun jv _ _ _ _ wr => ∃ j : Nat, j ≤ 2 ∧ jv = .int .i64 (j : Int) ∧ Below w1.heap.size w1 wr) (fun j _ _ _ _ _ => 2 - (intOf j).toNat)
  case atStart => exact ⟨0, by omega, rfl, Below.refl _ _⟩
  case round =>
    obtain ⟨j, hj, rfl, hb⟩ := hrel
    obtain ⟨wz, hwz⟩ : ∃ y, wr = y := ⟨_, rfl⟩
    rw [hwz] at hb ⊢
    have HB2 : Hid (Below w1.heap.size w1 wz) := hb
    clear hb hwz
    by_cases hj2 : j < 2
    case neg =>
      have hjj : ¬ (j : Int) < 2 := by omega
      have HLZ : Hid (∀ i (hi : i < n), ∃ gb go lb lo x s s2, va = some ⟨gb, go, none⟩ ∧ la = some ⟨lb, lo, none⟩ ∧ ∀ W, Below w1.heap.size w1 W → ((∀ q, q < OfK.k → W.cell? ⟨gb, go + i * 13 + q, none⟩ = (ofL x s)[q]?) ∧ (∀ q, q < OfK.k → W.cell? ⟨lb, lo + i * 13 + q, none⟩ = (ofL x s2)[q]?)) ∧ OfOk W 1048576 x s ∧ OfOk W 1048576 x s2) := fun i hi => by
        have hiy : i < ys.length := by rw [HYL.out]; exact hi
        have hix : i < xs.length := by rw [HN.out]; exact hi
        obtain ⟨gb, go, e1, -, -⟩ := HC1.out.own.lst.1.cells i hiy
        obtain ⟨lb, lo, e2, -, -⟩ := HX.out.cells i hix
        have ex : ys[i].1 = xs[i].1 := by rw [← at_of hiy, ← at_of hix, HA.out]
        refine ⟨gb, go, lb, lo, xs[i].1, ys[i].2, xs[i].2, e1, e2, fun W hW => ?_⟩
        have hWw : Below w.heap.size w W := HB1.out.trans (hW.mono HB1.out.size)
        have hcW := HC1.out.bel hW
        obtain ⟨b', o', q1, -, q2⟩ := hcW.own.lst.1.cells i hiy
        rw [e1] at q1
        cases q1
        obtain ⟨b', o', q1, -, q3⟩ := (HX.out.bel hWw).cells i hix
        rw [e2] at q1
        cases q1
        have o1 := hcW.oks _ (List.getElem_mem hiy)
        have o2 := HOK.out _ (List.getElem_mem hix)
        rw [ex] at o1
        refine ⟨⟨fun q hq => ?_, fun q hq => q3 q hq⟩, o1, o2.kp.bel hWw, o2.km.bel hWw, o2.kc.bel hWw, o2.np, o2.nm, o2.nc, o2.bp, o2.bm, o2.bc, o2.org, o2.pref⟩
        have h5 : W.cell? ⟨gb, go + i * 13 + q, none⟩ = (ofL ys[i].1 ys[i].2)[q]? := q2 q hq
        rw [ex] at h5
        exact h5
      clear hj2
      go_wp2_with fail
      go_loopw [60, 8] (fun iv _ wr => ∃ i : Nat, i ≤ n ∧ iv = .int .i64 (i : Int) ∧ Below w1.heap.size w1 wr) (fun i _ _ => n - (intOf i).toNat)
      case atStart => exact ⟨0, by omega, rfl, HB2.out⟩
      case round =>
        obtain ⟨i, hi, rfl, hb⟩ := hrel
        obtain ⟨wx, hwx⟩ : ∃ y, wr = y := ⟨_, rfl⟩
        rw [hwx] at hb ⊢
        have HBX : Hid (Below w1.heap.size w1 wx) := hb
        clear hb hwx
        by_cases hin : i < n
        case neg =>
          have hii : ¬ (i : Int) < (n : Int) := by omega
          have HE : Hid (Below w.heap.size w wx) := HB1.out.trans (HBX.out.mono HB1.out.size)
          go_wp2_with fail
          go_ret
          exact ⟨rfl, HE.out⟩
        have hii : (i : Int) < (n : Int) := by omega
        have ii0 : (0 : Int) ≤ (i : Int) := by omega
        obtain ⟨gb, go, lb, lo, x, s, s2, rfl, rfl, hall⟩ := HLZ.out i hin
        go_wp2_with fail
        obtain ⟨wd, hwd⟩ : ∃ y, wx.drew = y := ⟨_, rfl⟩
        have HBD : Hid (Below w1.heap.size w1 wd) := by rw [← hwd]; exact HBX.out.trans ((drew_bel wx).mono HBX.out.size)
        have HWD : Hid (wx.drew = wd) := hwd
        have hall2 := hall wd HBD.out
        have HL1 : Hid (∀ W, Below w1.heap.size w1 W → ∀ q, q < OfK.k → W.cell? ⟨gb, go + i * 13 + q, none⟩ = (ofL x s)[q]?) := fun W hW => (hall W hW).1.1
        have HL2 : Hid (∀ W, Below w1.heap.size w1 W → ∀ q, q < OfK.k → W.cell? ⟨lb, lo + i * 13 + q, none⟩ = (ofL x s2)[q]?) := fun W hW => (hall W hW).1.2
        have HOK2 : Hid (OfOk wd 1048576 x s ∧ OfOk wd 1048576 x s2) := hall2.2
        clear hall hall2 hwd HBX
        refine wp_region_held_drew (S := fun W => Below w1.heap.size w1 W) (by kernel_rfl) (by rw [HWD.out]; exact HBD.out) (fun hHeld => ?_)
        rw [HWD.out] at hHeld ⊢
        refine wpAnyH_take (i := 0) (v := .slice (some ⟨gb, go, none⟩) n vc) rfl (by kernel_rfl) (by kernel_rfl) (by kernel_rfl) (fun _ _ _ h => h) (Or.inl ⟨by rfl, ?_⟩) (by assumption) ?_
        case refine_1 => intro W hSw; go_simp; try rfl
        try simp only [Act.put, List.getElem_toArray, List.getElem_cons_zero, List.getElem_cons_succ, List.setIfInBounds_toArray, List.set_cons_zero, List.set_cons_succ]
        refine wpAnyH_take (i := 1) (v := .int .i64 (i : Int)) rfl (by kernel_rfl) (by kernel_rfl) (by kernel_rfl) (fun _ _ _ h => h) (Or.inl ⟨by rfl, ?_⟩) (by assumption) ?_
        case refine_1 => intro W hSw; go_simp; try rfl
        try simp only [Act.put, List.getElem_toArray, List.getElem_cons_zero, List.getElem_cons_succ, List.setIfInBounds_toArray, List.set_cons_zero, List.set_cons_succ]
        refine wpAnyH_take (i := 2) (v := .pointer (some ⟨gb, go + i * 13, none⟩)) rfl (by kernel_rfl) (by kernel_rfl) (by kernel_rfl) (fun _ _ _ h => h) (Or.inl ⟨by rfl, ?_⟩) (by assumption) ?_
        case refine_1 => intro W hSw; go_simp; try rfl
        try simp only [Act.put, List.getElem_toArray, List.getElem_cons_zero, List.getElem_cons_succ, List.setIfInBounds_toArray, List.set_cons_zero, List.set_cons_succ]
        refine wpAnyH_take (i := 3) (v := .agg (ofL x s).toArray) rfl (by kernel_rfl) (by kernel_rfl) (by kernel_rfl) (fun _ _ _ h => h) (Or.inl ⟨by rfl, (fun W hSw => sat_run OfK (.tmp 65) rfl rfl (HL1.out W hSw) rfl)⟩) (by assumption) ?_
        try simp only [Act.put, List.getElem_toArray, List.getElem_cons_zero, List.getElem_cons_succ, List.setIfInBounds_toArray, List.set_cons_zero, List.set_cons_succ]
        refine wpAnyH_take (i := 4) (v := .slice (some ⟨lb, lo, none⟩) n lc) rfl (by kernel_rfl) (by kernel_rfl) (by kernel_rfl) (fun _ _ _ h => h) (Or.inl ⟨by rfl, ?_⟩) (by assumption) ?_
        case refine_1 => intro W hSw; go_simp; try rfl
        try simp only [Act.put, List.getElem_toArray, List.getElem_cons_zero, List.getElem_cons_succ, List.setIfInBounds_toArray, List.set_cons_zero, List.set_cons_succ]
        refine wpAnyH_take (i := 5) (v := .int .i64 (i : Int)) rfl (by kernel_rfl) (by kernel_rfl) (by kernel_rfl) (fun _ _ _ h => h) (Or.inl ⟨by rfl, ?_⟩) (by assumption) ?_
        case refine_1 => intro W hSw; go_simp; try rfl
        try simp only [Act.put, List.getElem_toArray, List.getElem_cons_zero, List.getElem_cons_succ, List.setIfInBounds_toArray, List.set_cons_zero, List.set_cons_succ]
        refine wpAnyH_take (i := 6) (v := .pointer (some ⟨lb, lo + i * 13, none⟩)) rfl (by kernel_rfl) (by kernel_rfl) (by kernel_rfl) (fun _ _ _ h => h) (Or.inl ⟨by rfl, ?_⟩) (by assumption) ?_
        case refine_1 => intro W hSw; go_simp; try rfl
        try simp only [Act.put, List.getElem_toArray, List.getElem_cons_zero, List.getElem_cons_succ, List.setIfInBounds_toArray, List.set_cons_zero, List.set_cons_succ]
        refine wpAnyH_take (i := 7) (v := .agg (ofL x s2).toArray) rfl (by kernel_rfl) (by kernel_rfl) (by kernel_rfl) (fun _ _ _ h => h) (Or.inl ⟨by rfl, (fun W hSw => sat_run OfK (.tmp 69) rfl rfl (HL2.out W hSw) rfl)⟩) (by assumption) ?_
        try simp only [Act.put, List.getElem_toArray, List.getElem_cons_zero, List.getElem_cons_succ, List.setIfInBounds_toArray, List.set_cons_zero, List.set_cons_succ]
        refine wpAnyH_ready (rs := [8]) (by kernel_rfl) (by simp) ?_
        refine AllReadyH.cons rfl (fun K hK => ?_) AllReadyH.nil
        go_simp
        refine (osame_any x s s2 _ _ wd HOK2.out.1 HOK2.out.2).mono ?_
        rintro e w5 ⟨rfl, hb5⟩
        have HB5 : Hid (Below w1.heap.size w1 w5) := HBD.out.trans (hb5.mono HBD.out.size)
        clear hb5
        refine hK.out _ _ HB5.out (fun hHeld => ?_)
        clear hK K
        try simp only [Act.put, List.getElem_toArray, List.getElem_cons_zero, List.getElem_cons_succ, List.setIfInBounds_toArray, List.set_cons_zero, List.set_cons_succ]
        refine wpAnyH_take (i := 9) (v := .bool false) rfl (by kernel_rfl) (by kernel_rfl) (by kernel_rfl) (fun _ _ _ h => h) (Or.inl ⟨by rfl, ?_⟩) (by assumption) ?_
        case refine_1 => intro W hSw; go_simp; try rfl
        try simp only [Act.put, List.getElem_toArray, List.getElem_cons_zero, List.getElem_cons_succ, List.setIfInBounds_toArray, List.set_cons_zero, List.set_cons_succ]
        refine wpAnyH_done (by kernel_rfl) ?_ _
        clear hHeld
        go_wp2_with fail
        refine ⟨⟨i + 1, by omega, by simp, HB5.out⟩, ?_⟩
        simp [intOf]
        omega
    have hjj : (j : Int) < 2 := by omega
    have HBw : Hid (Below w.heap.size w wz) := HB1.out.trans (HB2.out.mono HB1.out.size)
    have HCz : Hid (Cps w.heap.size wz (.slice va n vc) ys) := HC1.out.bel HB2.out
    have HOY : Hid (Ofs wz.heap.size wz va ys) := ofs_of2 HCz.out.own.lst.1 HCz.out.oks
    have HOX : Hid (Ofs wz.heap.size wz la xs) := ofs_nx HXO.out HBw.out
    have hn1 : n ≤ 1000 := by omega
    have hn3 : n ≤ 100000000 := by omega
    clear HC1 hn2
    go_wp2_with fail
    refine (ordc_any HCz.out HYL.out hn1 HZ.out).mono ?_
    rintro e w2 ⟨oa, m, oc, ps, rfl, hpm, hor, hb2, hrow⟩
    have hdoc := ord_doc hor
    rw [HA.out] at hdoc
    have HD : Hid (ps.length ≤ n ∧ InN ps n ∧ (∀ k (hk : k < ps.length), bsP (atO xs) (psP (atO xs) n (inF (ps.take k))) = some ps[k]) ∧ bsP (atO xs) (psP (atO xs) n (inF ps)) = none) := hdoc
    have HPM : Hid (ps.length = m) := hpm
    have HZ2 : Hid (Below wz.heap.size wz w2) := hb2
    have HR2 : Hid (m = 0 ∨ ∃ g, oa = some ⟨g, 0, none⟩ ∧ wz.heap.size ≤ g ∧ RowN g ps w2) := hrow
    have hm1 : m ≤ 1000 := by have := hdoc.1; omega
    clear hdoc hor hpm hb2 hrow HCz
    obtain ⟨E, hE⟩ : ∃ y, enP (atO xs) (rchP (atO xs) n) = y := ⟨_, rfl⟩
    have HE : Hid (enP (atO xs) (rchP (atO xs) n) = E) := hE
    clear hE
    go_wp2_with fail
    refine (evens_any va n vc ys HYL.out hn3 w2 (ofs_nx HOY.out HZ2.out)).mono ?_
    rintro e w3 ⟨ev, rfl, ho3, hb3⟩
    rw [HA.out, HE.out] at ho3
    obtain ⟨ea, ec, rfl, -⟩ := ho3.form
    obtain ⟨el, hel⟩ : ∃ y, E.length = y := ⟨_, rfl⟩
    have HEL : Hid (E.length = el) := hel
    have hel4 : el ≤ 4 := by
      rw [← hel, ← HE.out]
      unfold enP
      split
      · exact Nat.zero_le _
      · rw [List.length_cons, List.length_take]; omega
    rw [hel] at ho3 ⊢
    have HO3 : Hid (OwnL EN w2.heap.size w3 (.slice ea el ec) E) := ho3
    have H23 : Hid (Below w2.heap.size w2 w3) := hb3
    have HZ3 : Hid (Below wz.heap.size wz w3) := HZ2.out.trans (hb3.mono HZ2.out.size)
    clear ho3 hel hb3
    obtain ⟨z, hz⟩ : ∃ y, bsI (bsP (atO xs) (rchP (atO xs) n)) = y := ⟨_, rfl⟩
    have HZZ : Hid (bsI (bsP (atO xs) (rchP (atO xs) n)) = z) := hz
    clear hz
    go_wp2_with fail
    refine (best_any va n vc ys HYL.out hn3 w3 (ofs_nx HOY.out HZ3.out) z (by rw [HA.out]; exact HZZ.out)).mono ?_
    rintro e w4 ⟨rfl, hb4⟩
    have H34 : Hid (Below w3.heap.size w3 w4) := hb4
    have HZ4 : Hid (Below wz.heap.size wz w4) := HZ3.out.trans (hb4.mono HZ3.out.size)
    clear hb4
    go_wp2_with fail
    refine (rbest_any la n lc xs HN.out hn1 w4 (ofs_nx HOX.out HZ4.out) z HZZ.out).mono ?_
    rintro e w5 ⟨rfl, hb5⟩
    have H35 : Hid (Below w3.heap.size w3 w5) := H34.out.trans (hb5.mono H34.out.size)
    have HZ5 : Hid (Below wz.heap.size wz w5) := HZ4.out.trans (hb5.mono HZ4.out.size)
    clear hb5 H34
    go_wp2_with fail
    refine (rorder_any la n lc xs HN.out hn1 w5 (ofs_nx HOX.out HZ5.out) ps HD.out.1 HD.out.2.1 HD.out.2.2.1 HD.out.2.2.2).mono ?_
    rintro e w6 ⟨rv, rfl, ho6, hb6⟩
    obtain ⟨ra, rc, rfl, -⟩ := ho6.form
    rw [HPM.out] at ho6 ⊢
    have HO6 : Hid (OwnL EN w5.heap.size w6 (.slice ra m rc) ps) := ho6
    have H36 : Hid (Below w3.heap.size w3 w6) := H35.out.trans (hb6.mono H35.out.size)
    have HZ6 : Hid (Below wz.heap.size wz w6) := HZ5.out.trans (hb6.mono HZ5.out.size)
    have H26 : Hid (Below w2.heap.size w2 w6) := H23.out.trans (H36.out.mono H23.out.size)
    clear ho6 hb6 H35
    go_wp2_with fail
    refine (cints_any oa ra m oc rc (ps.map (fun (x : Nat) => (x : Int))) (by rw [List.length_map]; exact HPM.out) w6 (ei_of (ord_lst (row_bel HR2.out H26.out) HPM.out hm1)) (ei_of HO6.out.lst.1)).mono ?_
    rintro e w7 ⟨rfl, hb7⟩
    have H37 : Hid (Below w3.heap.size w3 w7) := H36.out.trans (hb7.mono H36.out.size)
    have HZ7 : Hid (Below wz.heap.size wz w7) := HZ6.out.trans (hb7.mono HZ6.out.size)
    clear hb7 H36 HO6 H26
    go_wp2_with fail
    refine (reven_any la n lc xs HN.out hn1 w7 (ofs_nx HOX.out HZ7.out)).mono ?_
    rintro e w8 ⟨rv, rfl, ho8, hb8⟩
    rw [HE.out] at ho8
    obtain ⟨ra, rc, rfl, -⟩ := ho8.form
    rw [HEL.out] at ho8 ⊢
    have HO8 : Hid (OwnL EN w7.heap.size w8 (.slice ra el rc) E) := ho8
    have H38 : Hid (Below w3.heap.size w3 w8) := H37.out.trans (hb8.mono H37.out.size)
    have HZ8 : Hid (Below wz.heap.size wz w8) := HZ7.out.trans (hb8.mono HZ7.out.size)
    clear ho8 hb8 H37
    go_wp2_with fail
    refine (cints_any ea ra el ec rc (E.map (fun (x : Nat) => (x : Int))) (by rw [List.length_map]; exact HEL.out) w8 (ei_of (HO3.out.bel H38.out).lst.1) (ei_of HO8.out.lst.1)).mono ?_
    rintro e w9 ⟨rfl, hb9⟩
    have H39 : Hid (Below w3.heap.size w3 w9) := H38.out.trans (hb9.mono H38.out.size)
    have HZ9 : Hid (Below wz.heap.size wz w9) := HZ8.out.trans (hb9.mono HZ8.out.size)
    have H29 : Hid (Below w2.heap.size w2 w9) := H23.out.trans (H39.out.mono H23.out.size)
    have HW9 : Hid (WrL wz.heap.size oa m w9 w9) := WrL.row (row_bel HR2.out H29.out) HPM.out
    have HE9 : Hid (el = 0 ∨ ∃ g, ea = some ⟨g, 0, none⟩ ∧ wz.heap.size ≤ g ∧ (∀ g', oa = some ⟨g', 0, none⟩ → m ≠ 0 → g ≠ g') ∧ RowN g E w9) := by
      rcases own_row (HO3.out.bel H39.out) with h | ⟨g, e, hg, h⟩
      · exact .inl h
      · refine .inr ⟨g, e, Nat.le_trans HZ2.out.size hg, fun g' e' hm0 => ?_, h⟩
        rcases HR2.out with h0 | ⟨g2, e2, -, h2⟩
        · exact absurd h0 hm0
        · rw [e'] at e2
          cases e2
          have := h2.lt
          omega
    have HZ9 : Hid (Below w1.heap.size w1 w9) := HB2.out.trans (HZ9.out.mono HB2.out.size)
    have HSZ : Hid (w1.heap.size ≤ wz.heap.size) := HB2.out.size
    clear hb9 H38 HO8 HO3 H39 H29 HR2 HD
    go_wp2_with fail
    go_loopw [41, 6] (fun iv _ wr => ∃ i : Nat, i ≤ m ∧ iv = .int .i64 (i : Int) ∧ WrL wz.heap.size oa m w9 wr) (fun i _ _ => m - (intOf i).toNat)
    case atStart => exact ⟨0, by omega, rfl, HW9.out⟩
    case round =>
      obtain ⟨i, hi, rfl, hw⟩ := hrel
      obtain ⟨wx, hwx⟩ : ∃ y, wr = y := ⟨_, rfl⟩
      rw [hwx] at hw ⊢
      have HWX : Hid (WrL wz.heap.size oa m w9 wx) := hw
      clear hw hwx
      by_cases him : i < m
      case pos =>
        have hii : (i : Int) < (m : Int) := by omega
        have ii0 : (0 : Int) ≤ (i : Int) := by omega
        obtain ⟨g, u, rfl, hg, c1, f1⟩ := HWX.out.th i him
        have HN2 : Hid (WrL wz.heap.size (some ⟨g, 0, none⟩) m w9 (wx.setCell ⟨g, i, none⟩ (.int .i64 (-9)))) := HWX.out.set hg (by omega) i _
        go_wp2_with fail
        refine ⟨⟨i + 1, by omega, by simp, ?_⟩, ?_⟩
        · first | exact HN2.out | simpa using HN2.out
        · simp [intOf]
          omega
      have hii : ¬ (i : Int) < (m : Int) := by omega
      have HWE : Hid (WrL wz.heap.size ea el wx wx) := WrL.row (ps := E) (by
        rcases HE9.out with h | ⟨g, e, hg, hne, h⟩
        · exact .inl h
        · exact .inr ⟨g, e, hg, row_blk h (HWX.out.blk g hne) HWX.out.size⟩) HEL.out
      have HBX : Hid (Below w1.heap.size w1 wx) := HZ9.out.trans (HWX.out.bel.mono HSZ.out)
      clear HW9 HE9 HWX
      go_wp2_with fail
      go_loopw [50, 7] (fun iv _ wr => ∃ i : Nat, i ≤ el ∧ iv = .int .i64 (i : Int) ∧ WrL wz.heap.size ea el wx wr) (fun i _ _ => el - (intOf i).toNat)
      case atStart => exact ⟨0, by omega, rfl, HWE.out⟩
      case round =>
        obtain ⟨i, hi, rfl, hw⟩ := hrel
        obtain ⟨wy, hwy⟩ : ∃ y, wr = y := ⟨_, rfl⟩
        rw [hwy] at hw ⊢
        have HWY : Hid (WrL wz.heap.size ea el wx wy) := hw
        clear hw hwy
        by_cases him : i < el
        case pos =>
          have hii : (i : Int) < (el : Int) := by omega
          have ii0 : (0 : Int) ≤ (i : Int) := by omega
          obtain ⟨g, u, rfl, hg, c1, f1⟩ := HWY.out.th i him
          have HN2 : Hid (WrL wz.heap.size (some ⟨g, 0, none⟩) el wx (wy.setCell ⟨g, i, none⟩ (.int .i64 (-9)))) := HWY.out.set hg (by omega) i _
          go_wp2_with fail
          refine ⟨⟨i + 1, by omega, by simp, ?_⟩, ?_⟩
          · first | exact HN2.out | simpa using HN2.out
          · simp [intOf]
            omega
        have hii : ¬ (i : Int) < (el : Int) := by omega
        have HBY : Hid (Below w1.heap.size w1 wy) := HBX.out.trans (HWY.out.bel.mono (Nat.le_trans HSZ.out (Nat.le_refl _)))
        go_wp2_with fail
        refine ⟨⟨j + 1, by omega, by simp, HBY.out⟩, ?_⟩
        simp [intOf]
        omega
end Go.Proofs.Ytkahjibdmhaglaa.Ch
