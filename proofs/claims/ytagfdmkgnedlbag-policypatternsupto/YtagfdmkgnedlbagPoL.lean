/- PolicyPatterns' law: what it answers. -/
import Derived.Test.YtagfdmkgnedlbagPoK
namespace Go.Proofs.Ytagfdmkgnedlbag.Po
open Go.ChangeShapes Go.WideShapes Go.ChangeAt Go.RowKit Go.Joins Go.Proofs.Ytagfdmkgnedlbag.Ge
set_option linter.unusedVariables false

theorem mt_any1 : mt (.mk 2 0 []) [1] = true := (mt_iff _ _).2 ((lang_any _ _ _).2 ⟨1, rfl⟩)
theorem mt_alt (p q : Pat) (w : List Int) : mt (.mk 4 0 [p, q]) w = (mt p w || mt q w) := by
  rw [Bool.eq_iff_iff, mt_iff, lang_alt, Bool.or_eq_true, mt_iff, mt_iff]
  simp
theorem mt_eps (w : List Int) (n : Nat) (h : w.length = n) : mt (.mk 3 0 []) w = ((n : Int) == 0) := by
  rw [Bool.eq_iff_iff, mt_iff, lang_nil, ← List.length_eq_zero_iff, h]
  simp
noncomputable def spl (p q : Pat) (w : List Int) (j : Nat) : Bool := (List.range j).any fun i => mt p (w.take i) && mt q (w.drop i)
theorem spl_succ (p q : Pat) (w : List Int) (j : Nat) : spl p q w (j + 1) = (spl p q w j || (mt p (w.take j) && mt q (w.drop j))) := by
  unfold spl
  rw [List.range_succ, List.any_append]
  simp
theorem mt_seq (p q : Pat) (w : List Int) (n : Nat) (h : w.length = n) : mt (.mk 3 0 [p, q]) w = spl p q w (n + 1) := by
  rw [Bool.eq_iff_iff, mt_iff, lang_cons]
  unfold spl
  rw [List.any_eq_true]
  constructor
  · rintro ⟨u, v, e, h1, h2⟩
    rw [lang_cons] at h2
    obtain ⟨v1, v2, e2, h3, h4⟩ := h2
    rw [lang_nil] at h4
    subst h4
    rw [List.append_nil] at e2
    subst e2
    refine ⟨u.length, List.mem_range.2 (by rw [← h, e, List.length_append]; omega), ?_⟩
    rw [e, List.take_left, List.drop_left, Bool.and_eq_true, mt_iff, mt_iff]
    exact ⟨h1, h3⟩
  · rintro ⟨i, hi, h1⟩
    rw [Bool.and_eq_true, mt_iff, mt_iff] at h1
    exact ⟨w.take i, w.drop i, (List.take_append_drop i w).symm, h1.1, (lang_cons _ _ _ _).2 ⟨_, [], (List.append_nil _).symm, h1.2, (lang_nil _ _).2 rfl⟩⟩
theorem mt_star (p : Pat) (w : List Int) (n : Nat) (h : w.length = n) : mt (.mk 5 0 [p]) w = (((n : Int) == 0) || mt (.mk 6 0 [p]) w) := by
  rw [Bool.eq_iff_iff, mt_iff, lang_star, star_iff, Bool.or_eq_true, mt_iff, lang_plus, ← List.length_eq_zero_iff, h]
  simp
theorem mt_maybe (p : Pat) (w : List Int) (n : Nat) (h : w.length = n) : mt (.mk 7 0 [p]) w = (((n : Int) == 0) || mt p w) := by
  rw [Bool.eq_iff_iff, mt_iff, lang_maybe, Bool.or_eq_true, mt_iff, ← List.length_eq_zero_iff, h]
  simp
theorem mt_plus (p : Pat) (w : List Int) : mt (.mk 3 0 [p, .mk 5 0 [p]]) w = mt (.mk 6 0 [p]) w := by
  rw [Bool.eq_iff_iff, mt_iff, mt_iff, lang_cons, lang_plus]
  unfold cat
  constructor
  · rintro ⟨u, v, e, h1, h2⟩
    rw [lang_cons] at h2
    obtain ⟨v1, v2, e2, h3, h4⟩ := h2
    rw [lang_nil] at h4
    subst h4
    rw [List.append_nil] at e2
    subst e2
    exact ⟨u, v, e, h1, (lang_star _ _ _).1 h3⟩
  · rintro ⟨u, v, e, h1, h2⟩
    exact ⟨u, v, e, h1, (lang_cons _ _ _ _).2 ⟨v, [], (List.append_nil _).symm, (lang_star _ _ _).2 h2, (lang_nil _ _).2 rfl⟩⟩
theorem sz1 (k : Int) (p : Pat) : sz (.mk k 0 [p]) = 1 + sz p := by rw [sz_mk]; simp
theorem sz2 (k : Int) (p q : Pat) : sz (.mk k 0 [p, q]) = 1 + (sz p + sz q) := by rw [sz_mk]; simp
set_option maxRecDepth 100000 in
set_option maxHeartbeats 8000000 in
theorem patterns_any (p q : Pat) (a a' : Option Addr) (c c' : Nat) (va : Option Addr) (ca : Nat) (xs : List Int) (ln : Nat) (hln : xs.length = ln) (w : World) (hbp : sz p ≤ 1048576) (hbq : sz q ≤ 1048576) (hln2 : ln ≤ 1048576) (hp : PA w w.heap.size p a) (hq : PA w w.heap.size q a') (hx : Lst EI w va xs) (hcap : ln ≤ ca) (hnil : va = none → ln = 0 ∧ ca = 0) :
    Calls Try.prog 4 #[pv p a c, pv q a' c', .slice va ln ca] w fun e w' => e = .returned (.bool true) ∧ Below w.heap.size w w' := by
  have HX : Hid (Lst EI w va xs) := hx
  have HP : Hid (PA w w.heap.size p a) := hp
  have HQ : Hid (PA w w.heap.size q a') := hq
  have HLN : Hid (xs.length = ln) := hln
  clear hx hp hq hln
  obtain ⟨pk, pn, ps⟩ := p
  obtain ⟨pl, hpl⟩ : ∃ l, ps.length = l := ⟨_, rfl⟩
  obtain ⟨qk, qn, qs⟩ := q
  obtain ⟨ql, hql⟩ : ∃ l, qs.length = l := ⟨_, rfl⟩
  obtain ⟨s, hs⟩ : ∃ s, w.heap.size = s := ⟨_, rfl⟩
  obtain ⟨w0, hw0⟩ : ∃ w0, (w.alloc (Obj.cells #[.int .i64 pk, .int .i64 pn, .slice a pl c] 24)).alloc (Obj.cells #[.int .i64 qk, .int .i64 qn, .slice a' ql c'] 24) = w0 := ⟨_, rfl⟩
  have hx0 : w0.heap[s]? = some (Obj.cells #[.int .i64 pk, .int .i64 pn, .slice a pl c] 24) := by
    rw [← hw0, ← hs]
    exact (((Below.refl _ (w.alloc _)).alloc (Nat.le_refl _) _).block w.heap.size (by simp)).trans (World.alloc_heap_new w _)
  have hy0 : w0.heap[s + 1]? = some (Obj.cells #[.int .i64 qk, .int .i64 qn, .slice a' ql c'] 24) := by
    have e1 : (w.alloc (Obj.cells #[.int .i64 pk, .int .i64 pn, .slice a pl c] 24)).heap.size = s + 1 := by rw [← hs]; simp
    rw [← hw0, ← e1]
    exact World.alloc_heap_new _ _
  have hs0 : w0.heap.size = s + 1 + 1 := by rw [← hw0, ← hs]; simp
  have HB0 : Hid (Below w.heap.size w w0) := by rw [← hw0]; exact ((Below.refl _ w).alloc (Nat.le_refl _) _).alloc (by simp) _
  have HKE : Hid (∀ W, Below w0.heap.size w0 W → Below w.heap.size w W) := fun W h => HB0.out.trans (h.mono HB0.out.size)
  have HPP : Hid (∀ W, Below w0.heap.size w0 W → PA W W.heap.size (.mk pk pn ps) a) := fun W h => (HP.out.bel (HKE.out W h)).mono (HKE.out W h).size
  have HQQ : Hid (∀ W, Below w0.heap.size w0 W → PA W W.heap.size (.mk qk qn qs) a') := fun W h => (HQ.out.bel (HKE.out W h)).mono (HKE.out W h).size
  have HXX : Hid (∀ W, Below w0.heap.size w0 W → Lst EI W va xs) := fun W h => HX.out.bel (HKE.out W h)
  have HC1 : Hid (∀ W, Below w0.heap.size w0 W → W.cell? ⟨s, 0, none⟩ = some (.int .i64 pk) ∧ W.cell? ⟨s, 1, none⟩ = some (.int .i64 pn) ∧ W.cell? ⟨s, 2, none⟩ = some (.slice a pl c)) := fun W h => cell_three ((h.block s (by omega)).trans hx0)
  have HC2 : Hid (∀ W, Below w0.heap.size w0 W → W.cell? ⟨s + 1, 0, none⟩ = some (.int .i64 qk) ∧ W.cell? ⟨s + 1, 1, none⟩ = some (.int .i64 qn) ∧ W.cell? ⟨s + 1, 2, none⟩ = some (.slice a' ql c')) := fun W h => cell_three ((h.block (s + 1) (by omega)).trans hy0)
  have HMP : Hid (∀ (W : World) (v : Option Addr) (n m : Nat) (ys : List Int), Below w0.heap.size w0 W → Lst EI W v ys → ys.length = n → n ≤ ln → Calls Try.prog 6 #[.agg #[.int .i64 pk, .int .i64 pn, .slice a pl c], .slice v n m] W fun e w' => e = .returned (.bool (mt (.mk pk pn ps) ys)) ∧ Below W.heap.size W w') := fun W v n m ys h hl hn hle => by
    have := match_any (.mk pk pn ps) a c v m ys n hn W (by omega) (by omega) (HPP.out W h) hl
    unfold pv at this
    dsimp only [Pat.kind, Pat.num, Pat.sub] at this
    rw [hpl] at this
    exact this
  have HMQ : Hid (∀ (W : World) (v : Option Addr) (n m : Nat) (ys : List Int), Below w0.heap.size w0 W → Lst EI W v ys → ys.length = n → n ≤ ln → Calls Try.prog 6 #[.agg #[.int .i64 qk, .int .i64 qn, .slice a' ql c'], .slice v n m] W fun e w' => e = .returned (.bool (mt (.mk qk qn qs) ys)) ∧ Below W.heap.size W w') := fun W v n m ys h hl hn hle => by
    have := match_any (.mk qk qn qs) a' c' v m ys n hn W (by omega) (by omega) (HQQ.out W h) hl
    unfold pv at this
    dsimp only [Pat.kind, Pat.num, Pat.sub] at this
    rw [hql] at this
    exact this
  have HME : Hid (∀ (W : World), Below w0.heap.size w0 W → Calls Try.prog 6 #[.agg #[.int .i64 3, .int .i64 0, .slice none 0 0], .slice va ln ca] W fun e w' => e = .returned (.bool ((ln : Int) == 0)) ∧ Below W.heap.size W w') := fun W h => by
    have := match_any (.mk 3 0 []) none 0 va ca xs ln HLN.out W (by rw [sz_mk]; simp) (by omega) (pa_nil _ _ _ _ _) (HXX.out W h)
    rw [mt_eps xs ln HLN.out] at this
    exact this
  have HMK : Hid (∀ (W : World) (k : Int) (l : List Pat) (ad : Option Addr) (m : Nat), l.length = m → sz (.mk k 0 l) ≤ 4194304 → PA W W.heap.size (.mk k 0 l) ad → Below w0.heap.size w0 W → Calls Try.prog 6 #[.agg #[.int .i64 k, .int .i64 0, .slice ad m m], .slice va ln ca] W fun e w' => e = .returned (.bool (mt (.mk k 0 l) xs)) ∧ Below W.heap.size W w') := fun W k l ad m hm hsz hpa h => by
    have := match_any (.mk k 0 l) ad m va ca xs ln HLN.out W (by omega) (by omega) hpa (HXX.out W h)
    unfold pv at this
    dsimp only [Pat.kind, Pat.num, Pat.sub] at this
    rw [hm] at this
    exact this
  have HT2 : Hid (∀ (W : World) (k : Int), Below w0.heap.size w0 W → Calls Try.prog 10 #[.int .i64 k, .agg #[.int .i64 pk, .int .i64 pn, .slice a pl c], .agg #[.int .i64 qk, .int .i64 qn, .slice a' ql c']] W fun e w' => ∃ ad, e = .returned (.agg #[.int .i64 k, .int .i64 0, .slice ad 2 2]) ∧ PA w' w'.heap.size (.mk k 0 [.mk pk pn ps, .mk qk qn qs]) ad ∧ Below W.heap.size W w') := fun W k h => by
    have := two_any k (.mk pk pn ps) (.mk qk qn qs) a a' c c' W (HPP.out W h) (HQQ.out W h)
    unfold Pm pv at this
    dsimp only [Pat.kind, Pat.num, Pat.sub] at this
    rw [hpl, hql] at this
    exact this
  have HT1 : Hid (∀ (W : World) (k : Int), Below w0.heap.size w0 W → Calls Try.prog 11 #[.int .i64 k, .agg #[.int .i64 pk, .int .i64 pn, .slice a pl c]] W fun e w' => ∃ ad, e = .returned (.agg #[.int .i64 k, .int .i64 0, .slice ad 1 1]) ∧ PA w' w'.heap.size (.mk k 0 [.mk pk pn ps]) ad ∧ Below W.heap.size W w') := fun W k h => by
    have := one_any k (.mk pk pn ps) a c W (HPP.out W h)
    unfold Pm pv at this
    dsimp only [Pat.kind, Pat.num, Pat.sub] at this
    rw [hpl] at this
    exact this
  have HT3 : Hid (∀ (W : World) (ad : Option Addr), Below w0.heap.size w0 W → PA W W.heap.size (.mk 5 0 [.mk pk pn ps]) ad → Calls Try.prog 10 #[.int .i64 3, .agg #[.int .i64 pk, .int .i64 pn, .slice a pl c], .agg #[.int .i64 5, .int .i64 0, .slice ad 1 1]] W fun e w' => ∃ ad', e = .returned (.agg #[.int .i64 3, .int .i64 0, .slice ad' 2 2]) ∧ PA w' w'.heap.size (.mk 3 0 [.mk pk pn ps, .mk 5 0 [.mk pk pn ps]]) ad' ∧ Below W.heap.size W w') := fun W ad h hpa => by
    have := two_any 3 (.mk pk pn ps) (.mk 5 0 [.mk pk pn ps]) a ad c 1 W (HPP.out W h) hpa
    unfold Pm pv at this
    dsimp only [Pat.kind, Pat.num, Pat.sub] at this
    rw [hpl] at this
    exact this
  have HSZ : Hid (sz (.mk 4 0 [.mk pk pn ps, .mk qk qn qs]) ≤ 4194304 ∧ sz (.mk 3 0 [.mk pk pn ps, .mk qk qn qs]) ≤ 4194304 ∧ (∀ k, sz (.mk k 0 [.mk pk pn ps]) ≤ 4194304) ∧ sz (.mk 3 0 [.mk pk pn ps, .mk 5 0 [.mk pk pn ps]]) ≤ 4194304) := ⟨by rw [sz2]; omega, by rw [sz2]; omega, fun k => by rw [sz1]; omega, by rw [sz2, sz1]; omega⟩
  obtain ⟨w1, hw1⟩ : ∃ w1, w0.alloc (Obj.cells #[.int .i64 1] 3) = w1 := ⟨_, rfl⟩
  obtain ⟨hO1, hb1⟩ := own_made EI [1] 1 rfl (by decide) hw1
  have HM1 := match_any (.mk 2 0 []) none 0 (some ⟨w0.heap.size, 0, none⟩) 1 [1] 1 rfl w1 (by rw [sz_mk]; simp) (by decide) (pa_nil _ _ _ _ _) hO1.lst.1
  rw [mt_any1, hs0] at HM1
  have HE1 : Hid (Below w0.heap.size w0 w1) := hb1
  clear hO1 hb1 hx0 hy0
  unfold pv
  dsimp only [Pat.kind, Pat.num, Pat.sub]
  rw [hpl, hql]
  go_enter Try.func4, Try.ntmps4
  go_wp2_with fail
  refine HM1.mono ?_
  rintro e w2 ⟨rfl, hb2⟩
  have HE2 : Hid (Below w0.heap.size w0 w2) := HE1.out.trans (hb2.mono HE1.out.size)
  clear hb2 HM1 hw1
  go_upto_region 4 with fail
  obtain ⟨w3, hw3⟩ : ∃ w3, w2.alloc (Obj.cells #[.int .i64 3, .int .i64 0, .slice none 0 0] 24) = w3 := ⟨_, rfl⟩
  obtain ⟨se, hse⟩ : ∃ z, w2.heap.size = z := ⟨_, rfl⟩
  have hes : se < w3.heap.size := by rw [← hw3, ← hse]; simp
  have hx3 : w3.heap[se]? = some (Obj.cells #[.int .i64 3, .int .i64 0, .slice none 0 0] 24) := by rw [← hw3, ← hse]; exact World.alloc_heap_new w2 _
  have HE3 : Hid (Below w0.heap.size w0 w3) := by rw [← hw3]; exact HE2.out.alloc HE2.out.size _
  have HCE : Hid (∀ W, Below w3.heap.size w3 W → W.cell? ⟨se, 0, none⟩ = some (.int .i64 3) ∧ W.cell? ⟨se, 1, none⟩ = some (.int .i64 0) ∧ W.cell? ⟨se, 2, none⟩ = some (.slice none 0 0)) := fun W h => cell_three ((h.block se hes).trans hx3)
  obtain ⟨y0, y1, y2⟩ := HC1.out w3 HE3.out
  clear hx3
  try rw [hw3]
  obtain ⟨P, hP⟩ : ∃ b, mt (.mk pk pn ps) xs = b := ⟨_, rfl⟩
  obtain ⟨Q, hQ⟩ : ∃ b, mt (.mk qk qn qs) xs = b := ⟨_, rfl⟩
  have HPV : Hid (mt (.mk pk pn ps) xs = P) := hP
  have HQV : Hid (mt (.mk qk qn qs) xs = Q) := hQ
  have HDR : Hid (∀ W, Below w0.heap.size w0 W → Below w0.heap.size w0 W.drew) := fun W h => ⟨h.1, h.2, h.3, h.4, h.block⟩
  have HMP0 : Hid (∀ W, Below w0.heap.size w0 W → Calls Try.prog 6 #[.agg #[.int .i64 pk, .int .i64 pn, .slice a pl c], .slice va ln ca] W fun e w' => e = .returned (.bool P) ∧ Below W.heap.size W w') := fun W h => by rw [← HPV.out]; exact HMP.out W va ln ca xs h (HXX.out W h) HLN.out (Nat.le_refl _)
  have HMQ0 : Hid (∀ W, Below w0.heap.size w0 W → Calls Try.prog 6 #[.agg #[.int .i64 qk, .int .i64 qn, .slice a' ql c'], .slice va ln ca] W fun e w' => e = .returned (.bool Q) ∧ Below W.heap.size W w') := fun W h => by rw [← HQV.out]; exact HMQ.out W va ln ca xs h (HXX.out W h) HLN.out (Nat.le_refl _)
  clear hP hQ
  obtain ⟨z0, z1, z2⟩ := HC2.out w3 HE3.out
  go_region_held3 (fun W => (W.cell? ⟨s, 0, none⟩ = some (.int .i64 pk) ∧ W.cell? ⟨s, 1, none⟩ = some (.int .i64 pn) ∧ W.cell? ⟨s, 2, none⟩ = some (.slice a pl c)) ∧ W.cell? ⟨s + 1, 0, none⟩ = some (.int .i64 qk) ∧ W.cell? ⟨s + 1, 1, none⟩ = some (.int .i64 qn) ∧ W.cell? ⟨s + 1, 2, none⟩ = some (.slice a' ql c')) (first | (simp [go_sem, y0, y1, y2, z0, z1, z2]; done) | (refine ⟨⟨?_, ?_, ?_⟩, ?_, ?_, ?_⟩ <;> assumption) | go_keep)
    (first
      | (go_at_call_of 6 (Value.agg #[.int .i64 pk, .int .i64 pn, .slice a pl c]); refine (HMP0.out _ (HDR.out _ HE3.out)).mono ?_; rintro e w4 ⟨rfl, hb4⟩; have HE4 : Hid (Below w0.heap.size w0 w4) := (HDR.out _ HE3.out).trans (hb4.mono (HDR.out _ HE3.out).size); have HF4 : Hid (Below w3.heap.size w3 w4) := (drewB w3).trans hb4; obtain ⟨u0, u1, u2⟩ := HC1.out w4 HE4.out; obtain ⟨v0, v1, v2⟩ := HC2.out w4 HE4.out; clear hb4)
      | (go_at_call_of 6 (Value.agg #[.int .i64 qk, .int .i64 qn, .slice a' ql c']); refine (HMQ0.out _ HE4.out).mono ?_; rintro e w5 ⟨rfl, hb5⟩; have HE5 : Hid (Below w0.heap.size w0 w5) := HE4.out.trans (hb5.mono HE4.out.size); have HF5 : Hid (Below w3.heap.size w3 w5) := HF4.out.trans (hb5.mono HF4.out.size); obtain ⟨r0, r1, r2⟩ := HC1.out w5 HE5.out; obtain ⟨t0, t1, t2⟩ := HC2.out w5 HE5.out; clear hb5))
  clear u0 u1 u2 v0 v1 v2 y0 y1 y2 z0 z1 z2
  have HT := HT2.out w5 4 HE5.out
  have HMY : Hid (mt (.mk 7 0 [.mk pk pn ps]) xs = (((ln : Int) == 0) || P)) := by show _ = _; rw [mt_maybe _ xs ln HLN.out, HPV.out]
  cases P
  all_goals
    go_wp2_with fail
    refine HT.mono ?_
    rintro e w6 ⟨ad, rfl, hpa, hb6⟩
    have HE6 : Hid (Below w0.heap.size w0 w6) := HE5.out.trans (hb6.mono HE5.out.size)
    have HF6 : Hid (Below w3.heap.size w3 w6) := HF5.out.trans (hb6.mono HF5.out.size)
    have HM := HMK.out w6 4 _ ad 2 rfl HSZ.out.1 hpa HE6.out
    rw [mt_alt, HPV.out, HQV.out] at HM
    clear hb6 hpa HT r0 r1 r2 t0 t1 t2
    go_wp2_with fail
    refine HM.mono ?_
    rintro e w7 ⟨rfl, hb7⟩
    have HE7 : Hid (Below w0.heap.size w0 w7) := HE6.out.trans (hb7.mono HE6.out.size)
    have HF7 : Hid (Below w3.heap.size w3 w7) := HF6.out.trans (hb7.mono HF6.out.size)
    obtain ⟨v0, v1, v2⟩ := HCE.out w7 HF7.out
    have HN := HME.out w7 HE7.out
    clear hb7 HM
    go_wp2_with fail
    refine HN.mono ?_
    rintro e w8 ⟨rfl, hb8⟩
    have HE8 : Hid (Below w0.heap.size w0 w8) := HE7.out.trans (hb8.mono HE7.out.size)
    clear hb8 HN v0 v1 v2
    go_wp2_with fail
    go_loopw [10, 11] (fun sv iv wr => ∃ j : Nat, j ≤ ln + 1 ∧ iv = .int .i64 (j : Int) ∧ sv = .bool (spl (.mk pk pn ps) (.mk qk qn qs) xs j) ∧ Below w0.heap.size w0 wr) (fun _ i _ => ln + 1 - (intOf i).toNat)
    case atStart => exact ⟨0, Nat.zero_le _, rfl, rfl, HE8.out⟩
    case round =>
      obtain ⟨j, hj, rfl, rfl, hbr⟩ := hrel
      have HER : Hid (Below w0.heap.size w0 wr) := hbr
      have HED : Hid (Below w0.heap.size w0 wr.drew) := HDR.out _ hbr
      have HSS : Hid (spl (.mk pk pn ps) (.mk qk qn qs) xs (j + 1) = (spl (.mk pk pn ps) (.mk qk qn qs) xs j || (mt (.mk pk pn ps) (xs.take j) && mt (.mk qk qn qs) (xs.drop j)))) := spl_succ _ _ _ _
      obtain ⟨y0, y1, y2⟩ := HC1.out wr hbr
      obtain ⟨z0, z1, z2⟩ := HC2.out wr hbr
      clear hbr
      obtain ⟨SJ, hSJ⟩ : ∃ b, spl (.mk pk pn ps) (.mk qk qn qs) xs j = b := ⟨_, rfl⟩
      obtain ⟨A, hA⟩ : ∃ b, mt (.mk pk pn ps) (xs.take j) = b := ⟨_, rfl⟩
      obtain ⟨B, hB⟩ : ∃ b, mt (.mk qk qn qs) (xs.drop j) = b := ⟨_, rfl⟩
      rw [hSJ, hA, hB] at HSS
      rw [hSJ]
      have HAV : Hid (mt (.mk pk pn ps) (xs.take j) = A) := hA
      have HBV : Hid (mt (.mk qk qn qs) (xs.drop j) = B) := hB
      have HSV : Hid (spl (.mk pk pn ps) (.mk qk qn qs) xs j = SJ) := hSJ
      clear hSJ hA hB
      by_cases hlt : j ≤ ln
      · have jj : (j : Int) ≤ ln := by omega
        have j0 : (0 : Int) ≤ j := by omega
        have jc : (j : Int) ≤ ca := by omega
        have HMA : Hid (∀ W, Below w0.heap.size w0 W → Calls Try.prog 6 #[.agg #[.int .i64 pk, .int .i64 pn, .slice a pl c], .slice va j ca] W fun e w' => e = .returned (.bool A) ∧ Below W.heap.size W w') := fun W h => by rw [← HAV.out]; exact HMP.out W va j ca (xs.take j) h ((HXX.out W h).take j) (by rw [List.length_take, HLN.out]; omega) hlt
        have HLD : Hid (∀ W, Below w0.heap.size w0 W → Lst EI W (if ca = j then va else Option.map (fun x => x.add j) va) (xs.drop j)) := fun W h => by
          by_cases hjl : j < ln
          · rw [if_neg (by omega)]
            obtain ⟨b, o, e, -⟩ := (HXX.out W h).cells 0 (by rw [HLN.out]; omega)
            have h3 := HXX.out W h
            rw [e] at h3 ⊢
            have h4 := h3.drop j
            have e0 : o + j * EI.k = o + j := by show o + j * 1 = o + j; omega
            rw [e0] at h4
            show Lst EI W (some (Addr.add ⟨b, o, none⟩ j)) (xs.drop j)
            rw [Addr.add_lit]
            exact h4
          · have e0 : xs.drop j = [] := List.drop_eq_nil_of_le (by rw [HLN.out]; omega)
            rw [e0]
            exact ⟨by simp, fun i hi => absurd hi (by simp)⟩
        have HMB : Hid (∀ W, Below w0.heap.size w0 W → Calls Try.prog 6 #[.agg #[.int .i64 qk, .int .i64 qn, .slice a' ql c'], .slice (if ca = j then va else Option.map (fun x => x.add j) va) (ln - j) (ca - j)] W fun e w' => e = .returned (.bool B) ∧ Below W.heap.size W w') := fun W h => by rw [← HBV.out]; exact HMQ.out W _ (ln - j) (ca - j) (xs.drop j) h (HLD.out W h) (by rw [List.length_drop, HLN.out]) (by omega)
        cases SJ
        · cases A
          · go_upto_region 11 with fail
            refine wp_region_held_drew (S := fun W => (W.cell? ⟨s, 0, none⟩ = some (.int .i64 pk) ∧ W.cell? ⟨s, 1, none⟩ = some (.int .i64 pn) ∧ W.cell? ⟨s, 2, none⟩ = some (.slice a pl c)) ∧ W.cell? ⟨s + 1, 0, none⟩ = some (.int .i64 qk) ∧ W.cell? ⟨s + 1, 1, none⟩ = some (.int .i64 qn) ∧ W.cell? ⟨s + 1, 2, none⟩ = some (.slice a' ql c')) (by kernel_rfl) ⟨HC1.out _ HED.out, HC2.out _ HED.out⟩ (fun hHeld => ?_)
            refine wpAnyH_take (i := 0) (v := ?_) rfl (by kernel_rfl) (by kernel_rfl) (by kernel_rfl) (fun _ _ _ h => h) (Or.inl ⟨by rfl, ?_⟩) (by assumption) ?_
            case refine_2 => intro W hSw; obtain ⟨⟨j0, j1, j2⟩, j3, j4, j5⟩ := hSw; go_simp; try rfl
            try simp only [Act.put, List.getElem_toArray, List.getElem_cons_zero, List.setIfInBounds_toArray, List.set_cons_zero, List.set_cons_succ]
            refine wpAnyH_take (i := 1) (v := ?_) rfl (by kernel_rfl) (by kernel_rfl) (by kernel_rfl) (fun _ _ _ h => h) (Or.inl ⟨by rfl, ?_⟩) (by assumption) ?_
            case refine_2 => intro W hSw; obtain ⟨⟨j0, j1, j2⟩, j3, j4, j5⟩ := hSw; go_simp; try rfl
            try simp only [Act.put, List.getElem_toArray, List.getElem_cons_zero, List.getElem_cons_succ, List.setIfInBounds_toArray, List.set_cons_zero, List.set_cons_succ]
            refine wpAnyH_take (i := 2) (v := ?_) rfl (by kernel_rfl) (by kernel_rfl) (by kernel_rfl) (fun _ _ _ h => h) (Or.inl ⟨by rfl, ?_⟩) (by assumption) ?_
            case refine_2 => intro W hSw; obtain ⟨⟨j0, j1, j2⟩, j3, j4, j5⟩ := hSw; go_simp; try rfl
            try simp only [Act.put, List.getElem_toArray, List.getElem_cons_zero, List.getElem_cons_succ, List.setIfInBounds_toArray, List.set_cons_zero, List.set_cons_succ]
            refine wpAnyH_take (i := 3) (v := ?_) rfl (by kernel_rfl) (by kernel_rfl) (by kernel_rfl) (fun _ _ _ h => h) (Or.inl ⟨by rfl, ?_⟩) (by assumption) ?_
            case refine_2 => intro W hSw; obtain ⟨⟨j0, j1, j2⟩, j3, j4, j5⟩ := hSw; go_simp; try rfl
            try simp only [Act.put, List.getElem_toArray, List.getElem_cons_zero, List.getElem_cons_succ, List.setIfInBounds_toArray, List.set_cons_zero, List.set_cons_succ]
            refine wpAnyH_take (i := 4) (v := ?_) rfl (by kernel_rfl) (by kernel_rfl) (by kernel_rfl) (fun _ _ _ h => h) (Or.inl ⟨by rfl, ?_⟩) (by assumption) ?_
            case refine_2 => intro W hSw; obtain ⟨⟨j0, j1, j2⟩, j3, j4, j5⟩ := hSw; go_simp; try rfl
            try simp only [Act.put, List.getElem_toArray, List.getElem_cons_zero, List.getElem_cons_succ, List.setIfInBounds_toArray, List.set_cons_zero, List.set_cons_succ]
            refine wpAnyH_take (i := 5) (v := ?_) rfl (by kernel_rfl) (by kernel_rfl) (by kernel_rfl) (fun _ _ _ h => h) (Or.inl ⟨by rfl, ?_⟩) (by assumption) ?_
            case refine_2 => intro W hSw; obtain ⟨⟨j0, j1, j2⟩, j3, j4, j5⟩ := hSw; go_simp; try rfl
            try simp only [Act.put, List.getElem_toArray, List.getElem_cons_zero, List.getElem_cons_succ, List.setIfInBounds_toArray, List.set_cons_zero, List.set_cons_succ]
            refine wpAnyH_ready (rs := [6]) (by kernel_rfl) (by simp) ?_
            refine AllReadyH.cons rfl (fun K hK => ?_) AllReadyH.nil
            go_simp
            refine (HMA.out _ HED.out).mono ?_
            rintro e w10 ⟨rfl, hb10⟩
            have HE10 : Hid (Below w0.heap.size w0 w10) := HED.out.trans (hb10.mono HED.out.size)
            clear hb10 hHeld
            refine hK.out _ _ ⟨HC1.out _ HE10.out, HC2.out _ HE10.out⟩ (fun hHeld => ?_)
            clear hK K
            try simp only [Act.put, List.getElem_toArray, List.getElem_cons_zero, List.getElem_cons_succ, List.setIfInBounds_toArray, List.set_cons_zero, List.set_cons_succ]
            refine wpAnyH_take (i := 7) (v := ?_) rfl (by kernel_rfl) (by kernel_rfl) (by kernel_rfl) (fun _ _ _ h => h) (Or.inl ⟨by rfl, ?_⟩) (by assumption) ?_
            case refine_2 => intro W hSw; obtain ⟨⟨j0, j1, j2⟩, j3, j4, j5⟩ := hSw; go_simp; try rfl
            try simp only [Act.put, List.getElem_toArray, List.getElem_cons_zero, List.getElem_cons_succ, List.setIfInBounds_toArray, List.set_cons_zero, List.set_cons_succ]
            refine wpAnyH_take (i := 8) (v := undef) rfl (by kernel_rfl) (by kernel_rfl) (by kernel_rfl) (fun _ _ _ h => h) (Or.inr ⟨by rfl, rfl⟩) (by assumption) ?_
            try simp only [Act.put, List.getElem_toArray, List.getElem_cons_zero, List.getElem_cons_succ, List.setIfInBounds_toArray, List.set_cons_zero, List.set_cons_succ]
            refine wpAnyH_take (i := 9) (v := undef) rfl (by kernel_rfl) (by kernel_rfl) (by kernel_rfl) (fun _ _ _ h => h) (Or.inr ⟨by rfl, rfl⟩) (by assumption) ?_
            try simp only [Act.put, List.getElem_toArray, List.getElem_cons_zero, List.getElem_cons_succ, List.setIfInBounds_toArray, List.set_cons_zero, List.set_cons_succ]
            refine wpAnyH_take (i := 10) (v := undef) rfl (by kernel_rfl) (by kernel_rfl) (by kernel_rfl) (fun _ _ _ h => h) (Or.inr ⟨by rfl, rfl⟩) (by assumption) ?_
            try simp only [Act.put, List.getElem_toArray, List.getElem_cons_zero, List.getElem_cons_succ, List.setIfInBounds_toArray, List.set_cons_zero, List.set_cons_succ]
            refine wpAnyH_take (i := 11) (v := undef) rfl (by kernel_rfl) (by kernel_rfl) (by kernel_rfl) (fun _ _ _ h => h) (Or.inr ⟨by rfl, rfl⟩) (by assumption) ?_
            try simp only [Act.put, List.getElem_toArray, List.getElem_cons_zero, List.getElem_cons_succ, List.setIfInBounds_toArray, List.set_cons_zero, List.set_cons_succ]
            refine wpAnyH_take (i := 12) (v := undef) rfl (by kernel_rfl) (by kernel_rfl) (by kernel_rfl) (fun _ _ _ h => h) (Or.inr ⟨by rfl, rfl⟩) (by assumption) ?_
            try simp only [Act.put, List.getElem_toArray, List.getElem_cons_zero, List.getElem_cons_succ, List.setIfInBounds_toArray, List.set_cons_zero, List.set_cons_succ]
            refine wpAnyH_take (i := 13) (v := ?_) rfl (by kernel_rfl) (by kernel_rfl) (by kernel_rfl) (fun _ _ _ h => h) (Or.inl ⟨by rfl, ?_⟩) (by assumption) ?_
            case refine_2 => intro W hSw; obtain ⟨⟨j0, j1, j2⟩, j3, j4, j5⟩ := hSw; go_simp; try rfl
            try simp only [Act.put, List.getElem_toArray, List.getElem_cons_zero, List.getElem_cons_succ, List.setIfInBounds_toArray, List.set_cons_zero, List.set_cons_succ]
            refine wpAnyH_take (i := 14) (v := ?_) rfl (by kernel_rfl) (by kernel_rfl) (by kernel_rfl) (fun _ _ _ h => h) (Or.inl ⟨by rfl, ?_⟩) (by assumption) ?_
            case refine_2 => intro W hSw; obtain ⟨⟨j0, j1, j2⟩, j3, j4, j5⟩ := hSw; go_simp; try rfl
            try simp only [Act.put, List.getElem_toArray, List.getElem_cons_zero, List.getElem_cons_succ, List.setIfInBounds_toArray, List.set_cons_zero, List.set_cons_succ]
            refine wpAnyH_take (i := 15) (v := ?_) rfl (by kernel_rfl) (by kernel_rfl) (by kernel_rfl) (fun _ _ _ h => h) (Or.inl ⟨by rfl, ?_⟩) (by assumption) ?_
            case refine_2 => intro W hSw; obtain ⟨⟨j0, j1, j2⟩, j3, j4, j5⟩ := hSw; go_simp; try rfl
            try simp only [Act.put, List.getElem_toArray, List.getElem_cons_zero, List.getElem_cons_succ, List.setIfInBounds_toArray, List.set_cons_zero, List.set_cons_succ]
            refine wpAnyH_done (by kernel_rfl) ?_ _
            clear hHeld
            go_wp2_with fail
            exact ⟨⟨j + 1, by omega, by simp, congrArg Value.bool HSS.out.symm, HE10.out⟩, by simp [intOf]; omega⟩
          · go_upto_region 11 with fail
            refine wp_region_held_drew (S := fun W => (W.cell? ⟨s, 0, none⟩ = some (.int .i64 pk) ∧ W.cell? ⟨s, 1, none⟩ = some (.int .i64 pn) ∧ W.cell? ⟨s, 2, none⟩ = some (.slice a pl c)) ∧ W.cell? ⟨s + 1, 0, none⟩ = some (.int .i64 qk) ∧ W.cell? ⟨s + 1, 1, none⟩ = some (.int .i64 qn) ∧ W.cell? ⟨s + 1, 2, none⟩ = some (.slice a' ql c')) (by kernel_rfl) ⟨HC1.out _ HED.out, HC2.out _ HED.out⟩ (fun hHeld => ?_)
            refine wpAnyH_take (i := 0) (v := ?_) rfl (by kernel_rfl) (by kernel_rfl) (by kernel_rfl) (fun _ _ _ h => h) (Or.inl ⟨by rfl, ?_⟩) (by assumption) ?_
            case refine_2 => intro W hSw; obtain ⟨⟨j0, j1, j2⟩, j3, j4, j5⟩ := hSw; go_simp; try rfl
            try simp only [Act.put, List.getElem_toArray, List.getElem_cons_zero, List.setIfInBounds_toArray, List.set_cons_zero, List.set_cons_succ]
            refine wpAnyH_take (i := 1) (v := ?_) rfl (by kernel_rfl) (by kernel_rfl) (by kernel_rfl) (fun _ _ _ h => h) (Or.inl ⟨by rfl, ?_⟩) (by assumption) ?_
            case refine_2 => intro W hSw; obtain ⟨⟨j0, j1, j2⟩, j3, j4, j5⟩ := hSw; go_simp; try rfl
            try simp only [Act.put, List.getElem_toArray, List.getElem_cons_zero, List.getElem_cons_succ, List.setIfInBounds_toArray, List.set_cons_zero, List.set_cons_succ]
            refine wpAnyH_take (i := 2) (v := ?_) rfl (by kernel_rfl) (by kernel_rfl) (by kernel_rfl) (fun _ _ _ h => h) (Or.inl ⟨by rfl, ?_⟩) (by assumption) ?_
            case refine_2 => intro W hSw; obtain ⟨⟨j0, j1, j2⟩, j3, j4, j5⟩ := hSw; go_simp; try rfl
            try simp only [Act.put, List.getElem_toArray, List.getElem_cons_zero, List.getElem_cons_succ, List.setIfInBounds_toArray, List.set_cons_zero, List.set_cons_succ]
            refine wpAnyH_take (i := 3) (v := ?_) rfl (by kernel_rfl) (by kernel_rfl) (by kernel_rfl) (fun _ _ _ h => h) (Or.inl ⟨by rfl, ?_⟩) (by assumption) ?_
            case refine_2 => intro W hSw; obtain ⟨⟨j0, j1, j2⟩, j3, j4, j5⟩ := hSw; go_simp; try rfl
            try simp only [Act.put, List.getElem_toArray, List.getElem_cons_zero, List.getElem_cons_succ, List.setIfInBounds_toArray, List.set_cons_zero, List.set_cons_succ]
            refine wpAnyH_take (i := 4) (v := ?_) rfl (by kernel_rfl) (by kernel_rfl) (by kernel_rfl) (fun _ _ _ h => h) (Or.inl ⟨by rfl, ?_⟩) (by assumption) ?_
            case refine_2 => intro W hSw; obtain ⟨⟨j0, j1, j2⟩, j3, j4, j5⟩ := hSw; go_simp; try rfl
            try simp only [Act.put, List.getElem_toArray, List.getElem_cons_zero, List.getElem_cons_succ, List.setIfInBounds_toArray, List.set_cons_zero, List.set_cons_succ]
            refine wpAnyH_take (i := 5) (v := ?_) rfl (by kernel_rfl) (by kernel_rfl) (by kernel_rfl) (fun _ _ _ h => h) (Or.inl ⟨by rfl, ?_⟩) (by assumption) ?_
            case refine_2 => intro W hSw; obtain ⟨⟨j0, j1, j2⟩, j3, j4, j5⟩ := hSw; go_simp; try rfl
            try simp only [Act.put, List.getElem_toArray, List.getElem_cons_zero, List.getElem_cons_succ, List.setIfInBounds_toArray, List.set_cons_zero, List.set_cons_succ]
            refine wpAnyH_ready (rs := [6]) (by kernel_rfl) (by simp) ?_
            refine AllReadyH.cons rfl (fun K hK => ?_) AllReadyH.nil
            go_simp
            refine (HMA.out _ HED.out).mono ?_
            rintro e w10 ⟨rfl, hb10⟩
            have HE10 : Hid (Below w0.heap.size w0 w10) := HED.out.trans (hb10.mono HED.out.size)
            clear hb10 hHeld
            refine hK.out _ _ ⟨HC1.out _ HE10.out, HC2.out _ HE10.out⟩ (fun hHeld => ?_)
            clear hK K
            try simp only [Act.put, List.getElem_toArray, List.getElem_cons_zero, List.getElem_cons_succ, List.setIfInBounds_toArray, List.set_cons_zero, List.set_cons_succ]
            refine wpAnyH_take (i := 7) (v := ?_) rfl (by kernel_rfl) (by kernel_rfl) (by kernel_rfl) (fun _ _ _ h => h) (Or.inl ⟨by rfl, ?_⟩) (by assumption) ?_
            case refine_2 => intro W hSw; obtain ⟨⟨j0, j1, j2⟩, j3, j4, j5⟩ := hSw; go_simp; try rfl
            try simp only [Act.put, List.getElem_toArray, List.getElem_cons_zero, List.getElem_cons_succ, List.setIfInBounds_toArray, List.set_cons_zero, List.set_cons_succ]
            refine wpAnyH_take (i := 8) (v := ?_) rfl (by kernel_rfl) (by kernel_rfl) (by kernel_rfl) (fun _ _ _ h => h) (Or.inl ⟨by rfl, ?_⟩) (by assumption) ?_
            case refine_2 => intro W hSw; obtain ⟨⟨j0, j1, j2⟩, j3, j4, j5⟩ := hSw; go_simp; try rfl
            try simp only [Act.put, List.getElem_toArray, List.getElem_cons_zero, List.getElem_cons_succ, List.setIfInBounds_toArray, List.set_cons_zero, List.set_cons_succ]
            refine wpAnyH_take (i := 9) (v := ?_) rfl (by kernel_rfl) (by kernel_rfl) (by kernel_rfl) (fun _ _ _ h => h) (Or.inl ⟨by rfl, ?_⟩) (by assumption) ?_
            case refine_2 => intro W hSw; obtain ⟨⟨j0, j1, j2⟩, j3, j4, j5⟩ := hSw; go_simp; try rfl
            try simp only [Act.put, List.getElem_toArray, List.getElem_cons_zero, List.getElem_cons_succ, List.setIfInBounds_toArray, List.set_cons_zero, List.set_cons_succ]
            refine wpAnyH_take (i := 10) (v := ?_) rfl (by kernel_rfl) (by kernel_rfl) (by kernel_rfl) (fun _ _ _ h => h) (Or.inl ⟨by rfl, ?_⟩) (by assumption) ?_
            case refine_2 => intro W hSw; obtain ⟨⟨j0, j1, j2⟩, j3, j4, j5⟩ := hSw; go_simp; try rfl
            try simp only [Act.put, List.getElem_toArray, List.getElem_cons_zero, List.getElem_cons_succ, List.setIfInBounds_toArray, List.set_cons_zero, List.set_cons_succ]
            refine wpAnyH_take (i := 11) (v := ?_) rfl (by kernel_rfl) (by kernel_rfl) (by kernel_rfl) (fun _ _ _ h => h) (Or.inl ⟨by rfl, ?_⟩) (by assumption) ?_
            case refine_2 => intro W hSw; obtain ⟨⟨j0, j1, j2⟩, j3, j4, j5⟩ := hSw; go_simp; try rfl
            try simp only [Act.put, List.getElem_toArray, List.getElem_cons_zero, List.getElem_cons_succ, List.setIfInBounds_toArray, List.set_cons_zero, List.set_cons_succ]
            refine wpAnyH_ready (rs := [12]) (by kernel_rfl) (by simp) ?_
            refine AllReadyH.cons rfl (fun K hK => ?_) AllReadyH.nil
            go_simp
            refine (HMB.out _ HE10.out).mono ?_
            rintro e w11 ⟨rfl, hb11⟩
            have HE11 : Hid (Below w0.heap.size w0 w11) := HE10.out.trans (hb11.mono HE10.out.size)
            clear hb11 hHeld
            refine hK.out _ _ ⟨HC1.out _ HE11.out, HC2.out _ HE11.out⟩ (fun hHeld => ?_)
            clear hK K
            try simp only [Act.put, List.getElem_toArray, List.getElem_cons_zero, List.getElem_cons_succ, List.setIfInBounds_toArray, List.set_cons_zero, List.set_cons_succ]
            refine wpAnyH_take (i := 13) (v := ?_) rfl (by kernel_rfl) (by kernel_rfl) (by kernel_rfl) (fun _ _ _ h => h) (Or.inl ⟨by rfl, ?_⟩) (by assumption) ?_
            case refine_2 => intro W hSw; obtain ⟨⟨j0, j1, j2⟩, j3, j4, j5⟩ := hSw; go_simp; try rfl
            try simp only [Act.put, List.getElem_toArray, List.getElem_cons_zero, List.getElem_cons_succ, List.setIfInBounds_toArray, List.set_cons_zero, List.set_cons_succ]
            refine wpAnyH_take (i := 14) (v := ?_) rfl (by kernel_rfl) (by kernel_rfl) (by kernel_rfl) (fun _ _ _ h => h) (Or.inl ⟨by rfl, ?_⟩) (by assumption) ?_
            case refine_2 => intro W hSw; obtain ⟨⟨j0, j1, j2⟩, j3, j4, j5⟩ := hSw; go_simp; try rfl
            try simp only [Act.put, List.getElem_toArray, List.getElem_cons_zero, List.getElem_cons_succ, List.setIfInBounds_toArray, List.set_cons_zero, List.set_cons_succ]
            refine wpAnyH_take (i := 15) (v := ?_) rfl (by kernel_rfl) (by kernel_rfl) (by kernel_rfl) (fun _ _ _ h => h) (Or.inl ⟨by rfl, ?_⟩) (by assumption) ?_
            case refine_2 => intro W hSw; obtain ⟨⟨j0, j1, j2⟩, j3, j4, j5⟩ := hSw; go_simp; try rfl
            try simp only [Act.put, List.getElem_toArray, List.getElem_cons_zero, List.getElem_cons_succ, List.setIfInBounds_toArray, List.set_cons_zero, List.set_cons_succ]
            refine wpAnyH_done (by kernel_rfl) ?_ _
            clear hHeld
            go_wp2_with fail
            exact ⟨⟨j + 1, by omega, by simp, congrArg Value.bool HSS.out.symm, HE11.out⟩, by simp [intOf]; omega⟩
        · go_upto_region 11 with fail
          refine wp_region_held_drew (S := fun W => (W.cell? ⟨s, 0, none⟩ = some (.int .i64 pk) ∧ W.cell? ⟨s, 1, none⟩ = some (.int .i64 pn) ∧ W.cell? ⟨s, 2, none⟩ = some (.slice a pl c)) ∧ W.cell? ⟨s + 1, 0, none⟩ = some (.int .i64 qk) ∧ W.cell? ⟨s + 1, 1, none⟩ = some (.int .i64 qn) ∧ W.cell? ⟨s + 1, 2, none⟩ = some (.slice a' ql c')) (by kernel_rfl) ⟨HC1.out _ HED.out, HC2.out _ HED.out⟩ (fun hHeld => ?_)
          refine wpAnyH_take (i := 0) (v := ?_) rfl (by kernel_rfl) (by kernel_rfl) (by kernel_rfl) (fun _ _ _ h => h) (Or.inl ⟨by rfl, ?_⟩) (by assumption) ?_
          case refine_2 => intro W hSw; obtain ⟨⟨j0, j1, j2⟩, j3, j4, j5⟩ := hSw; go_simp; try rfl
          try simp only [Act.put, List.getElem_toArray, List.getElem_cons_zero, List.setIfInBounds_toArray, List.set_cons_zero, List.set_cons_succ]
          refine wpAnyH_take (i := 1) (v := ?_) rfl (by kernel_rfl) (by kernel_rfl) (by kernel_rfl) (fun _ _ _ h => h) (Or.inl ⟨by rfl, ?_⟩) (by assumption) ?_
          case refine_2 => intro W hSw; obtain ⟨⟨j0, j1, j2⟩, j3, j4, j5⟩ := hSw; go_simp; try rfl
          try simp only [Act.put, List.getElem_toArray, List.getElem_cons_zero, List.getElem_cons_succ, List.setIfInBounds_toArray, List.set_cons_zero, List.set_cons_succ]
          refine wpAnyH_take (i := 2) (v := undef) rfl (by kernel_rfl) (by kernel_rfl) (by kernel_rfl) (fun _ _ _ h => h) (Or.inr ⟨by rfl, rfl⟩) (by assumption) ?_
          try simp only [Act.put, List.getElem_toArray, List.getElem_cons_zero, List.getElem_cons_succ, List.setIfInBounds_toArray, List.set_cons_zero, List.set_cons_succ]
          refine wpAnyH_take (i := 3) (v := undef) rfl (by kernel_rfl) (by kernel_rfl) (by kernel_rfl) (fun _ _ _ h => h) (Or.inr ⟨by rfl, rfl⟩) (by assumption) ?_
          try simp only [Act.put, List.getElem_toArray, List.getElem_cons_zero, List.getElem_cons_succ, List.setIfInBounds_toArray, List.set_cons_zero, List.set_cons_succ]
          refine wpAnyH_take (i := 4) (v := undef) rfl (by kernel_rfl) (by kernel_rfl) (by kernel_rfl) (fun _ _ _ h => h) (Or.inr ⟨by rfl, rfl⟩) (by assumption) ?_
          try simp only [Act.put, List.getElem_toArray, List.getElem_cons_zero, List.getElem_cons_succ, List.setIfInBounds_toArray, List.set_cons_zero, List.set_cons_succ]
          refine wpAnyH_take (i := 5) (v := undef) rfl (by kernel_rfl) (by kernel_rfl) (by kernel_rfl) (fun _ _ _ h => h) (Or.inr ⟨by rfl, rfl⟩) (by assumption) ?_
          try simp only [Act.put, List.getElem_toArray, List.getElem_cons_zero, List.getElem_cons_succ, List.setIfInBounds_toArray, List.set_cons_zero, List.set_cons_succ]
          refine wpAnyH_take (i := 6) (v := undef) rfl (by kernel_rfl) (by kernel_rfl) (by kernel_rfl) (fun _ _ _ h => h) (Or.inr ⟨by rfl, rfl⟩) (by assumption) ?_
          try simp only [Act.put, List.getElem_toArray, List.getElem_cons_zero, List.getElem_cons_succ, List.setIfInBounds_toArray, List.set_cons_zero, List.set_cons_succ]
          refine wpAnyH_take (i := 7) (v := undef) rfl (by kernel_rfl) (by kernel_rfl) (by kernel_rfl) (fun _ _ _ h => h) (Or.inr ⟨by rfl, rfl⟩) (by assumption) ?_
          try simp only [Act.put, List.getElem_toArray, List.getElem_cons_zero, List.getElem_cons_succ, List.setIfInBounds_toArray, List.set_cons_zero, List.set_cons_succ]
          refine wpAnyH_take (i := 8) (v := undef) rfl (by kernel_rfl) (by kernel_rfl) (by kernel_rfl) (fun _ _ _ h => h) (Or.inr ⟨by rfl, rfl⟩) (by assumption) ?_
          try simp only [Act.put, List.getElem_toArray, List.getElem_cons_zero, List.getElem_cons_succ, List.setIfInBounds_toArray, List.set_cons_zero, List.set_cons_succ]
          refine wpAnyH_take (i := 9) (v := undef) rfl (by kernel_rfl) (by kernel_rfl) (by kernel_rfl) (fun _ _ _ h => h) (Or.inr ⟨by rfl, rfl⟩) (by assumption) ?_
          try simp only [Act.put, List.getElem_toArray, List.getElem_cons_zero, List.getElem_cons_succ, List.setIfInBounds_toArray, List.set_cons_zero, List.set_cons_succ]
          refine wpAnyH_take (i := 10) (v := undef) rfl (by kernel_rfl) (by kernel_rfl) (by kernel_rfl) (fun _ _ _ h => h) (Or.inr ⟨by rfl, rfl⟩) (by assumption) ?_
          try simp only [Act.put, List.getElem_toArray, List.getElem_cons_zero, List.getElem_cons_succ, List.setIfInBounds_toArray, List.set_cons_zero, List.set_cons_succ]
          refine wpAnyH_take (i := 11) (v := undef) rfl (by kernel_rfl) (by kernel_rfl) (by kernel_rfl) (fun _ _ _ h => h) (Or.inr ⟨by rfl, rfl⟩) (by assumption) ?_
          try simp only [Act.put, List.getElem_toArray, List.getElem_cons_zero, List.getElem_cons_succ, List.setIfInBounds_toArray, List.set_cons_zero, List.set_cons_succ]
          refine wpAnyH_take (i := 12) (v := undef) rfl (by kernel_rfl) (by kernel_rfl) (by kernel_rfl) (fun _ _ _ h => h) (Or.inr ⟨by rfl, rfl⟩) (by assumption) ?_
          try simp only [Act.put, List.getElem_toArray, List.getElem_cons_zero, List.getElem_cons_succ, List.setIfInBounds_toArray, List.set_cons_zero, List.set_cons_succ]
          refine wpAnyH_take (i := 13) (v := undef) rfl (by kernel_rfl) (by kernel_rfl) (by kernel_rfl) (fun _ _ _ h => h) (Or.inr ⟨by rfl, rfl⟩) (by assumption) ?_
          try simp only [Act.put, List.getElem_toArray, List.getElem_cons_zero, List.getElem_cons_succ, List.setIfInBounds_toArray, List.set_cons_zero, List.set_cons_succ]
          refine wpAnyH_take (i := 14) (v := ?_) rfl (by kernel_rfl) (by kernel_rfl) (by kernel_rfl) (fun _ _ _ h => h) (Or.inl ⟨by rfl, ?_⟩) (by assumption) ?_
          case refine_2 => intro W hSw; obtain ⟨⟨j0, j1, j2⟩, j3, j4, j5⟩ := hSw; go_simp; try rfl
          try simp only [Act.put, List.getElem_toArray, List.getElem_cons_zero, List.getElem_cons_succ, List.setIfInBounds_toArray, List.set_cons_zero, List.set_cons_succ]
          refine wpAnyH_take (i := 15) (v := ?_) rfl (by kernel_rfl) (by kernel_rfl) (by kernel_rfl) (fun _ _ _ h => h) (Or.inl ⟨by rfl, ?_⟩) (by assumption) ?_
          case refine_2 => intro W hSw; obtain ⟨⟨j0, j1, j2⟩, j3, j4, j5⟩ := hSw; go_simp; try rfl
          try simp only [Act.put, List.getElem_toArray, List.getElem_cons_zero, List.getElem_cons_succ, List.setIfInBounds_toArray, List.set_cons_zero, List.set_cons_succ]
          refine wpAnyH_done (by kernel_rfl) ?_ _
          clear hHeld
          go_wp2_with fail
          exact ⟨⟨j + 1, by omega, by simp, congrArg Value.bool HSS.out.symm, HED.out⟩, by simp [intOf]; omega⟩
      · obtain rfl : j = ln + 1 := by omega
        have hjn : ¬ ((ln + 1 : Nat) : Int) ≤ ln := by omega
        have HTT := HT2.out wr 3 HER.out
        go_wp2_with fail
        refine HTT.mono ?_
        rintro e w12 ⟨ad3, rfl, hpa3, hb12⟩
        have HE12 : Hid (Below w0.heap.size w0 w12) := HER.out.trans (hb12.mono HER.out.size)
        have HM := HMK.out w12 3 _ ad3 2 rfl HSZ.out.2.1 hpa3 HE12.out
        rw [mt_seq _ _ xs ln HLN.out, HSV.out] at HM
        clear hpa3 hb12 HTT HAV HBV HSS y0 y1 y2 z0 z1 z2
        go_wp2_with fail
        refine HM.mono ?_
        rintro e w13 ⟨rfl, hb13⟩
        have HE13 : Hid (Below w0.heap.size w0 w13) := HE12.out.trans (hb13.mono HE12.out.size)
        obtain ⟨y0, y1, y2⟩ := HC1.out w13 HE13.out
        clear hb13 HM
        obtain ⟨PL, hPL⟩ : ∃ b, mt (.mk 6 0 [.mk pk pn ps]) xs = b := ⟨_, rfl⟩
        have HPL : Hid (mt (.mk 6 0 [.mk pk pn ps]) xs = PL) := hPL
        have HST : Hid (mt (.mk 5 0 [.mk pk pn ps]) xs = (((ln : Int) == 0) || PL)) := by show _ = _; rw [mt_star _ xs ln HLN.out, hPL]
        have HPX : Hid (mt (.mk 3 0 [.mk pk pn ps, .mk 5 0 [.mk pk pn ps]]) xs = PL) := by show _ = _; rw [mt_plus, hPL]
        clear hPL
        have HED2 : Hid (Below w0.heap.size w0 w13.drew) := HDR.out _ HE13.out
        go_wp2_with fail
        refine wp_region_held_drew (S := fun W => (W.cell? ⟨s, 0, none⟩ = some (.int .i64 pk) ∧ W.cell? ⟨s, 1, none⟩ = some (.int .i64 pn) ∧ W.cell? ⟨s, 2, none⟩ = some (.slice a pl c)) ∧ W.cell? ⟨s + 1, 0, none⟩ = some (.int .i64 qk) ∧ W.cell? ⟨s + 1, 1, none⟩ = some (.int .i64 qn) ∧ W.cell? ⟨s + 1, 2, none⟩ = some (.slice a' ql c')) (by kernel_rfl) ⟨HC1.out _ HED2.out, HC2.out _ HED2.out⟩ (fun hHeld => ?_)
        refine wpAnyH_take (i := 0) (v := ?_) rfl (by kernel_rfl) (by kernel_rfl) (by kernel_rfl) (fun _ _ _ h => h) (Or.inl ⟨by rfl, ?_⟩) (by assumption) ?_
        case refine_2 => intro W hSw; obtain ⟨⟨j0, j1, j2⟩, j3, j4, j5⟩ := hSw; go_simp; try rfl
        try simp only [Act.put, List.getElem_toArray, List.getElem_cons_zero, List.setIfInBounds_toArray, List.set_cons_zero, List.set_cons_succ]
        refine wpAnyH_take (i := 2) (v := ?_) rfl (by kernel_rfl) (by kernel_rfl) (by kernel_rfl) (fun _ _ _ h => h) (Or.inl ⟨by rfl, ?_⟩) (by assumption) ?_
        case refine_2 => intro W hSw; obtain ⟨⟨j0, j1, j2⟩, j3, j4, j5⟩ := hSw; go_simp; try rfl
        try simp only [Act.put, List.getElem_toArray, List.getElem_cons_zero, List.getElem_cons_succ, List.setIfInBounds_toArray, List.set_cons_zero, List.set_cons_succ]
        refine wpAnyH_take (i := 4) (v := ?_) rfl (by kernel_rfl) (by kernel_rfl) (by kernel_rfl) (fun _ _ _ h => h) (Or.inl ⟨by rfl, ?_⟩) (by assumption) ?_
        case refine_2 => intro W hSw; obtain ⟨⟨j0, j1, j2⟩, j3, j4, j5⟩ := hSw; go_simp; try rfl
        try simp only [Act.put, List.getElem_toArray, List.getElem_cons_zero, List.getElem_cons_succ, List.setIfInBounds_toArray, List.set_cons_zero, List.set_cons_succ]
        refine wpAnyH_take (i := 6) (v := ?_) rfl (by kernel_rfl) (by kernel_rfl) (by kernel_rfl) (fun _ _ _ h => h) (Or.inl ⟨by rfl, ?_⟩) (by assumption) ?_
        case refine_2 => intro W hSw; obtain ⟨⟨j0, j1, j2⟩, j3, j4, j5⟩ := hSw; go_simp; try rfl
        try simp only [Act.put, List.getElem_toArray, List.getElem_cons_zero, List.getElem_cons_succ, List.setIfInBounds_toArray, List.set_cons_zero, List.set_cons_succ]
        refine wpAnyH_ready (rs := [1]) (by kernel_rfl) (by simp) ?_
        refine AllReadyH.cons rfl (fun K hK => ?_) AllReadyH.nil
        go_simp
        refine (HT1.out _ 5 HED2.out).mono ?_
        rintro e w14 ⟨ad5, rfl, hpa5, hbx⟩
        have HE14 : Hid (Below w0.heap.size w0 w14) := HED2.out.trans (hbx.mono HED2.out.size)
        clear hbx hHeld
        refine hK.out _ _ ⟨HC1.out _ HE14.out, HC2.out _ HE14.out⟩ (fun hHeld => ?_)
        clear hK K
        try simp only [Act.put, List.getElem_toArray, List.getElem_cons_zero, List.getElem_cons_succ, List.setIfInBounds_toArray, List.set_cons_zero, List.set_cons_succ]
        refine wpAnyH_ready (rs := [3]) (by kernel_rfl) (by simp) ?_
        refine AllReadyH.cons rfl (fun K hK => ?_) AllReadyH.nil
        go_simp
        refine (HMK.out w14 5 _ ad5 1 rfl (HSZ.out.2.2.1 5) hpa5 HE14.out).mono ?_
        rintro e w15 ⟨rfl, hbx⟩
        have HE15 : Hid (Below w0.heap.size w0 w15) := HE14.out.trans (hbx.mono HE14.out.size)
        clear hbx hHeld
        refine hK.out _ _ ⟨HC1.out _ HE15.out, HC2.out _ HE15.out⟩ (fun hHeld => ?_)
        clear hK K
        try simp only [Act.put, List.getElem_toArray, List.getElem_cons_zero, List.getElem_cons_succ, List.setIfInBounds_toArray, List.set_cons_zero, List.set_cons_succ]
        refine wpAnyH_ready (rs := [5]) (by kernel_rfl) (by simp) ?_
        refine AllReadyH.cons rfl (fun K hK => ?_) AllReadyH.nil
        go_simp
        refine (HT1.out _ 6 HE15.out).mono ?_
        rintro e w16 ⟨ad6, rfl, hpa6, hbx⟩
        have HE16 : Hid (Below w0.heap.size w0 w16) := HE15.out.trans (hbx.mono HE15.out.size)
        clear hbx hHeld
        refine hK.out _ _ ⟨HC1.out _ HE16.out, HC2.out _ HE16.out⟩ (fun hHeld => ?_)
        clear hK K
        try simp only [Act.put, List.getElem_toArray, List.getElem_cons_zero, List.getElem_cons_succ, List.setIfInBounds_toArray, List.set_cons_zero, List.set_cons_succ]
        refine wpAnyH_ready (rs := [7]) (by kernel_rfl) (by simp) ?_
        refine AllReadyH.cons rfl (fun K hK => ?_) AllReadyH.nil
        go_simp
        refine (HMK.out w16 6 _ ad6 1 rfl (HSZ.out.2.2.1 6) hpa6 HE16.out).mono ?_
        rintro e w17 ⟨rfl, hbx⟩
        have HE17 : Hid (Below w0.heap.size w0 w17) := HE16.out.trans (hbx.mono HE16.out.size)
        clear hbx hHeld
        refine hK.out _ _ ⟨HC1.out _ HE17.out, HC2.out _ HE17.out⟩ (fun hHeld => ?_)
        clear hK K
        try simp only [Act.put, List.getElem_toArray, List.getElem_cons_zero, List.getElem_cons_succ, List.setIfInBounds_toArray, List.set_cons_zero, List.set_cons_succ]
        refine wpAnyH_take (i := 8) (v := ?_) rfl (by kernel_rfl) (by kernel_rfl) (by kernel_rfl) (fun _ _ _ h => h) (Or.inl ⟨by rfl, ?_⟩) (by assumption) ?_
        case refine_2 => intro W hSw; obtain ⟨⟨j0, j1, j2⟩, j3, j4, j5⟩ := hSw; go_simp; try rfl
        try simp only [Act.put, List.getElem_toArray, List.getElem_cons_zero, List.getElem_cons_succ, List.setIfInBounds_toArray, List.set_cons_zero, List.set_cons_succ]
        refine wpAnyH_take (i := 9) (v := ?_) rfl (by kernel_rfl) (by kernel_rfl) (by kernel_rfl) (fun _ _ _ h => h) (Or.inl ⟨by rfl, ?_⟩) (by assumption) ?_
        case refine_2 => intro W hSw; obtain ⟨⟨j0, j1, j2⟩, j3, j4, j5⟩ := hSw; go_simp; try rfl
        try simp only [Act.put, List.getElem_toArray, List.getElem_cons_zero, List.getElem_cons_succ, List.setIfInBounds_toArray, List.set_cons_zero, List.set_cons_succ]
        refine wpAnyH_done (by kernel_rfl) ?_ _
        rw [HST.out, HPL.out]
        clear hHeld hpa5 hpa6 y0 y1 y2
        obtain ⟨y0, y1, y2⟩ := HC1.out w17 HE17.out
        have HT7 := HT1.out w17 7 HE17.out
        by_cases hl0 : ln = 0
        case pos =>
          have hl1 : (ln : Int) = 0 := by omega
          clear hl0
          go_wp2_with fail
          refine HT7.mono ?_
          rintro e w18 ⟨ad7, rfl, hpa7, hb18⟩
          have HE18 : Hid (Below w0.heap.size w0 w18) := HE17.out.trans (hb18.mono HE17.out.size)
          have HM7 := HMK.out w18 7 _ ad7 1 rfl (HSZ.out.2.2.1 7) hpa7 HE18.out
          rw [HMY.out] at HM7
          clear hpa7 hb18 HT7 y0 y1 y2
          go_wp2_with fail
          refine HM7.mono ?_
          rintro e w19 ⟨rfl, hb19⟩
          have HE19 : Hid (Below w0.heap.size w0 w19) := HE18.out.trans (hb19.mono HE18.out.size)
          clear hb19 HM7
          have HED3 : Hid (Below w0.heap.size w0 w19.drew) := HDR.out _ HE19.out
          go_wp2_with fail
          refine wp_region_held_drew (S := fun W => (W.cell? ⟨s, 0, none⟩ = some (.int .i64 pk) ∧ W.cell? ⟨s, 1, none⟩ = some (.int .i64 pn) ∧ W.cell? ⟨s, 2, none⟩ = some (.slice a pl c)) ∧ W.cell? ⟨s + 1, 0, none⟩ = some (.int .i64 qk) ∧ W.cell? ⟨s + 1, 1, none⟩ = some (.int .i64 qn) ∧ W.cell? ⟨s + 1, 2, none⟩ = some (.slice a' ql c')) (by kernel_rfl) ⟨HC1.out _ HED3.out, HC2.out _ HED3.out⟩ (fun hHeld => ?_)
          refine wpAnyH_take (i := 0) (v := ?_) rfl (by kernel_rfl) (by kernel_rfl) (by kernel_rfl) (fun _ _ _ h => h) (Or.inl ⟨by rfl, ?_⟩) (by assumption) ?_
          case refine_2 => intro W hSw; obtain ⟨⟨j0, j1, j2⟩, j3, j4, j5⟩ := hSw; go_simp; try rfl
          try simp only [Act.put, List.getElem_toArray, List.getElem_cons_zero, List.setIfInBounds_toArray, List.set_cons_zero, List.set_cons_succ]
          refine wpAnyH_take (i := 1) (v := ?_) rfl (by kernel_rfl) (by kernel_rfl) (by kernel_rfl) (fun _ _ _ h => h) (Or.inl ⟨by rfl, ?_⟩) (by assumption) ?_
          case refine_2 => intro W hSw; obtain ⟨⟨j0, j1, j2⟩, j3, j4, j5⟩ := hSw; go_simp; try rfl
          try simp only [Act.put, List.getElem_toArray, List.getElem_cons_zero, List.getElem_cons_succ, List.setIfInBounds_toArray, List.set_cons_zero, List.set_cons_succ]
          refine wpAnyH_take (i := 2) (v := ?_) rfl (by kernel_rfl) (by kernel_rfl) (by kernel_rfl) (fun _ _ _ h => h) (Or.inl ⟨by rfl, ?_⟩) (by assumption) ?_
          case refine_2 => intro W hSw; obtain ⟨⟨j0, j1, j2⟩, j3, j4, j5⟩ := hSw; go_simp; try rfl
          try simp only [Act.put, List.getElem_toArray, List.getElem_cons_zero, List.getElem_cons_succ, List.setIfInBounds_toArray, List.set_cons_zero, List.set_cons_succ]
          refine wpAnyH_take (i := 5) (v := ?_) rfl (by kernel_rfl) (by kernel_rfl) (by kernel_rfl) (fun _ _ _ h => h) (Or.inl ⟨by rfl, ?_⟩) (by assumption) ?_
          case refine_2 => intro W hSw; obtain ⟨⟨j0, j1, j2⟩, j3, j4, j5⟩ := hSw; go_simp; try rfl
          try simp only [Act.put, List.getElem_toArray, List.getElem_cons_zero, List.getElem_cons_succ, List.setIfInBounds_toArray, List.set_cons_zero, List.set_cons_succ]
          refine wpAnyH_ready (rs := [3]) (by kernel_rfl) (by simp) ?_
          refine AllReadyH.cons rfl (fun K hK => ?_) AllReadyH.nil
          go_simp
          refine (HT1.out _ 5 HED3.out).mono ?_
          rintro e w20 ⟨ad8, rfl, hpa8, hbx⟩
          have HE20 : Hid (Below w0.heap.size w0 w20) := HED3.out.trans (hbx.mono HED3.out.size)
          clear hbx hHeld
          refine hK.out _ _ ⟨HC1.out _ HE20.out, HC2.out _ HE20.out⟩ (fun hHeld => ?_)
          clear hK K
          try simp only [Act.put, List.getElem_toArray, List.getElem_cons_zero, List.getElem_cons_succ, List.setIfInBounds_toArray, List.set_cons_zero, List.set_cons_succ]
          refine wpAnyH_ready (rs := [4]) (by kernel_rfl) (by simp) ?_
          refine AllReadyH.cons rfl (fun K hK => ?_) AllReadyH.nil
          go_simp
          refine (HT3.out w20 ad8 HE20.out hpa8).mono ?_
          rintro e w21 ⟨ad9, rfl, hpa9, hbx⟩
          have HE21 : Hid (Below w0.heap.size w0 w21) := HE20.out.trans (hbx.mono HE20.out.size)
          clear hbx hHeld
          refine hK.out _ _ ⟨HC1.out _ HE21.out, HC2.out _ HE21.out⟩ (fun hHeld => ?_)
          clear hK K
          try simp only [Act.put, List.getElem_toArray, List.getElem_cons_zero, List.getElem_cons_succ, List.setIfInBounds_toArray, List.set_cons_zero, List.set_cons_succ]
          refine wpAnyH_ready (rs := [6]) (by kernel_rfl) (by simp) ?_
          refine AllReadyH.cons rfl (fun K hK => ?_) AllReadyH.nil
          go_simp
          refine (HMK.out w21 3 _ ad9 2 rfl HSZ.out.2.2.2 hpa9 HE21.out).mono ?_
          rintro e w22 ⟨rfl, hbx⟩
          have HE22 : Hid (Below w0.heap.size w0 w22) := HE21.out.trans (hbx.mono HE21.out.size)
          clear hbx hHeld
          refine hK.out _ _ ⟨HC1.out _ HE22.out, HC2.out _ HE22.out⟩ (fun hHeld => ?_)
          clear hK K
          try simp only [Act.put, List.getElem_toArray, List.getElem_cons_zero, List.getElem_cons_succ, List.setIfInBounds_toArray, List.set_cons_zero, List.set_cons_succ]
          rw [HPX.out]
          refine wpAnyH_take (i := 7) (v := ?_) rfl (by kernel_rfl) (by kernel_rfl) (by kernel_rfl) (fun _ _ _ h => h) (Or.inl ⟨by rfl, ?_⟩) (by assumption) ?_
          case refine_2 => intro W hSw; obtain ⟨⟨j0, j1, j2⟩, j3, j4, j5⟩ := hSw; go_simp; try rfl
          try simp only [Act.put, List.getElem_toArray, List.getElem_cons_zero, List.getElem_cons_succ, List.setIfInBounds_toArray, List.set_cons_zero, List.set_cons_succ]
          refine wpAnyH_take (i := 8) (v := ?_) rfl (by kernel_rfl) (by kernel_rfl) (by kernel_rfl) (fun _ _ _ h => h) (Or.inl ⟨by rfl, ?_⟩) (by assumption) ?_
          case refine_2 => intro W hSw; obtain ⟨⟨j0, j1, j2⟩, j3, j4, j5⟩ := hSw; go_simp; try rfl
          try simp only [Act.put, List.getElem_toArray, List.getElem_cons_zero, List.getElem_cons_succ, List.setIfInBounds_toArray, List.set_cons_zero, List.set_cons_succ]
          refine wpAnyH_done (by kernel_rfl) ?_ _
          clear hHeld hpa8 hpa9
          go_wp2_with fail
          go_ret
          exact ⟨by simp, HKE.out _ HE22.out⟩
        case neg =>
          have hl1 : ¬ (ln : Int) = 0 := by omega
          go_wp2_with fail
          refine HT7.mono ?_
          rintro e w18 ⟨ad7, rfl, hpa7, hb18⟩
          have HE18 : Hid (Below w0.heap.size w0 w18) := HE17.out.trans (hb18.mono HE17.out.size)
          have HM7 := HMK.out w18 7 _ ad7 1 rfl (HSZ.out.2.2.1 7) hpa7 HE18.out
          rw [HMY.out] at HM7
          clear hpa7 hb18 HT7 y0 y1 y2
          go_wp2_with fail
          refine HM7.mono ?_
          rintro e w19 ⟨rfl, hb19⟩
          have HE19 : Hid (Below w0.heap.size w0 w19) := HE18.out.trans (hb19.mono HE18.out.size)
          clear hb19 HM7
          have HED3 : Hid (Below w0.heap.size w0 w19.drew) := HDR.out _ HE19.out
          go_wp2_with fail
          refine wp_region_held_drew (S := fun W => (W.cell? ⟨s, 0, none⟩ = some (.int .i64 pk) ∧ W.cell? ⟨s, 1, none⟩ = some (.int .i64 pn) ∧ W.cell? ⟨s, 2, none⟩ = some (.slice a pl c)) ∧ W.cell? ⟨s + 1, 0, none⟩ = some (.int .i64 qk) ∧ W.cell? ⟨s + 1, 1, none⟩ = some (.int .i64 qn) ∧ W.cell? ⟨s + 1, 2, none⟩ = some (.slice a' ql c')) (by kernel_rfl) ⟨HC1.out _ HED3.out, HC2.out _ HED3.out⟩ (fun hHeld => ?_)
          refine wpAnyH_take (i := 0) (v := ?_) rfl (by kernel_rfl) (by kernel_rfl) (by kernel_rfl) (fun _ _ _ h => h) (Or.inl ⟨by rfl, ?_⟩) (by assumption) ?_
          case refine_2 => intro W hSw; obtain ⟨⟨j0, j1, j2⟩, j3, j4, j5⟩ := hSw; go_simp; try rfl
          try simp only [Act.put, List.getElem_toArray, List.getElem_cons_zero, List.setIfInBounds_toArray, List.set_cons_zero, List.set_cons_succ]
          refine wpAnyH_take (i := 1) (v := ?_) rfl (by kernel_rfl) (by kernel_rfl) (by kernel_rfl) (fun _ _ _ h => h) (Or.inl ⟨by rfl, ?_⟩) (by assumption) ?_
          case refine_2 => intro W hSw; obtain ⟨⟨j0, j1, j2⟩, j3, j4, j5⟩ := hSw; go_simp; try rfl
          try simp only [Act.put, List.getElem_toArray, List.getElem_cons_zero, List.getElem_cons_succ, List.setIfInBounds_toArray, List.set_cons_zero, List.set_cons_succ]
          refine wpAnyH_take (i := 2) (v := ?_) rfl (by kernel_rfl) (by kernel_rfl) (by kernel_rfl) (fun _ _ _ h => h) (Or.inl ⟨by rfl, ?_⟩) (by assumption) ?_
          case refine_2 => intro W hSw; obtain ⟨⟨j0, j1, j2⟩, j3, j4, j5⟩ := hSw; go_simp; try rfl
          try simp only [Act.put, List.getElem_toArray, List.getElem_cons_zero, List.getElem_cons_succ, List.setIfInBounds_toArray, List.set_cons_zero, List.set_cons_succ]
          refine wpAnyH_take (i := 5) (v := ?_) rfl (by kernel_rfl) (by kernel_rfl) (by kernel_rfl) (fun _ _ _ h => h) (Or.inl ⟨by rfl, ?_⟩) (by assumption) ?_
          case refine_2 => intro W hSw; obtain ⟨⟨j0, j1, j2⟩, j3, j4, j5⟩ := hSw; go_simp; try rfl
          try simp only [Act.put, List.getElem_toArray, List.getElem_cons_zero, List.getElem_cons_succ, List.setIfInBounds_toArray, List.set_cons_zero, List.set_cons_succ]
          refine wpAnyH_ready (rs := [3]) (by kernel_rfl) (by simp) ?_
          refine AllReadyH.cons rfl (fun K hK => ?_) AllReadyH.nil
          go_simp
          refine (HT1.out _ 5 HED3.out).mono ?_
          rintro e w20 ⟨ad8, rfl, hpa8, hbx⟩
          have HE20 : Hid (Below w0.heap.size w0 w20) := HED3.out.trans (hbx.mono HED3.out.size)
          clear hbx hHeld
          refine hK.out _ _ ⟨HC1.out _ HE20.out, HC2.out _ HE20.out⟩ (fun hHeld => ?_)
          clear hK K
          try simp only [Act.put, List.getElem_toArray, List.getElem_cons_zero, List.getElem_cons_succ, List.setIfInBounds_toArray, List.set_cons_zero, List.set_cons_succ]
          refine wpAnyH_ready (rs := [4]) (by kernel_rfl) (by simp) ?_
          refine AllReadyH.cons rfl (fun K hK => ?_) AllReadyH.nil
          go_simp
          refine (HT3.out w20 ad8 HE20.out hpa8).mono ?_
          rintro e w21 ⟨ad9, rfl, hpa9, hbx⟩
          have HE21 : Hid (Below w0.heap.size w0 w21) := HE20.out.trans (hbx.mono HE20.out.size)
          clear hbx hHeld
          refine hK.out _ _ ⟨HC1.out _ HE21.out, HC2.out _ HE21.out⟩ (fun hHeld => ?_)
          clear hK K
          try simp only [Act.put, List.getElem_toArray, List.getElem_cons_zero, List.getElem_cons_succ, List.setIfInBounds_toArray, List.set_cons_zero, List.set_cons_succ]
          refine wpAnyH_ready (rs := [6]) (by kernel_rfl) (by simp) ?_
          refine AllReadyH.cons rfl (fun K hK => ?_) AllReadyH.nil
          go_simp
          refine (HMK.out w21 3 _ ad9 2 rfl HSZ.out.2.2.2 hpa9 HE21.out).mono ?_
          rintro e w22 ⟨rfl, hbx⟩
          have HE22 : Hid (Below w0.heap.size w0 w22) := HE21.out.trans (hbx.mono HE21.out.size)
          clear hbx hHeld
          refine hK.out _ _ ⟨HC1.out _ HE22.out, HC2.out _ HE22.out⟩ (fun hHeld => ?_)
          clear hK K
          try simp only [Act.put, List.getElem_toArray, List.getElem_cons_zero, List.getElem_cons_succ, List.setIfInBounds_toArray, List.set_cons_zero, List.set_cons_succ]
          rw [HPX.out]
          refine wpAnyH_take (i := 7) (v := ?_) rfl (by kernel_rfl) (by kernel_rfl) (by kernel_rfl) (fun _ _ _ h => h) (Or.inl ⟨by rfl, ?_⟩) (by assumption) ?_
          case refine_2 => intro W hSw; obtain ⟨⟨j0, j1, j2⟩, j3, j4, j5⟩ := hSw; go_simp; try rfl
          try simp only [Act.put, List.getElem_toArray, List.getElem_cons_zero, List.getElem_cons_succ, List.setIfInBounds_toArray, List.set_cons_zero, List.set_cons_succ]
          refine wpAnyH_take (i := 8) (v := ?_) rfl (by kernel_rfl) (by kernel_rfl) (by kernel_rfl) (fun _ _ _ h => h) (Or.inl ⟨by rfl, ?_⟩) (by assumption) ?_
          case refine_2 => intro W hSw; obtain ⟨⟨j0, j1, j2⟩, j3, j4, j5⟩ := hSw; go_simp; try rfl
          try simp only [Act.put, List.getElem_toArray, List.getElem_cons_zero, List.getElem_cons_succ, List.setIfInBounds_toArray, List.set_cons_zero, List.set_cons_succ]
          refine wpAnyH_done (by kernel_rfl) ?_ _
          clear hHeld hpa8 hpa9
          go_wp2_with fail
          go_ret
          exact ⟨by simp, HKE.out _ HE22.out⟩
end Go.Proofs.Ytagfdmkgnedlbag.Po
