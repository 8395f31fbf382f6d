/- What can be written is read as it was: attributes, and the whole. Plain. -/
import Derived.Test.YtghlgkpfcpcopaaPwV
namespace Go.Proofs.Ytghlgkpfcpcopaa.Pv
open Go.Proofs.Ytghlgkpfcpcopaa.PM
set_option linter.unusedVariables false

theorem at_one {last k : Nat} {t t2 : Rt} {v rest : List Nat} (hl : last < k) (h8 : k ≤ 8) (hv : v.length < 65536) (hs : setA t k v = some t2) : attrsR last t (attr k v ++ rest).length (attr k v ++ rest) = attrsR k t2 rest.length rest := by
  have e0 : attr k v ++ rest = big 1 k ++ (piece v ++ rest) := by unfold attr; rw [List.append_assoc]
  have l1 := big_len 1 k
  refine attrsR_set (v := v) (by rw [e0, List.length_append, l1]; omega) ?_ ?_ (by omega) ?_ hs
  · rw [e0, List.take_left' l1, num_big 1 _ (by simp; omega)]
  · rw [e0, List.drop_left' l1]
    exact rpiece_piece hv rest
  · unfold passed
    exact wi_not.2 (by omega)
theorem at_if {last k size : Nat} {there : Bool} {xs : List Int} {t t2 : Rt} {rest : List Nat} (hl : last < k) (h8 : k ≤ 8) (hv : (wordsB size xs).length < 65536) (hs : there = true → setA t k (wordsB size xs) = some t2) (hn : there = false → t2 = t) :
    ∃ last', last' ≤ k ∧ attrsR last t (attrIf k size there xs ++ rest).length (attrIf k size there xs ++ rest) = attrsR last' t2 rest.length rest := by
  unfold attrIf
  cases there with
  | true =>
    rw [if_pos rfl]
    exact ⟨k, Nat.le_refl _, at_one hl h8 hv (hs rfl)⟩
  | false =>
    rw [if_neg (by decide), List.nil_append, hn rfl]
    exact ⟨last, by omega, rfl⟩
theorem set_num {k : Nat} {x : Int} (hx : 0 ≤ x ∧ x ≤ 4294967295) : rd 4 (wordsB 4 [x]) = some (big 4 x.toNat, []) ∧ (num (big 4 x.toNat) : Int) = x := by
  have h1 := rd_big 4 x.toNat []
  rw [List.append_nil] at h1
  refine ⟨by rw [word_one]; exact h1, ?_⟩
  rw [num_big 4 _ (by rw [p256]; omega)]
  omega
theorem bare_zero {r : Rt} (h : bare r = true) : r = rtZ := by
  unfold bare at h
  rw [decide_eq_true_iff] at h
  obtain ⟨h1, h2, h3, h4, h5, h6, h7, h8, h9, h10⟩ := h
  obtain ⟨pa, pn, path, org, pref, med, next, marks, clus, auth⟩ := r
  dsimp only at *
  rw [List.length_eq_zero_iff] at h8 h9 h10
  subst h1 h2 h3 h4 h5 h6 h7 h8 h9 h10
  rfl
theorem attrs_back {m : Ms} (hr : RR m.rt) (hn : 0 ≤ m.rt.next ∧ m.rt.next ≤ 4294967295) (hp : m.rt.pa = 0 ∧ m.rt.pn = 0) (hb : m.hv.length = 0 → m.rt = rtZ) : attrsR 0 rtZ (attrs m).length (attrs m) = some (m.rt, 0) := by
  obtain ⟨kind, dom, id, hold, code, lost, hv, rt⟩ := m
  obtain ⟨pa, pn, path, org, pref, med, next, marks, clus, auth⟩ := rt
  dsimp only at *
  obtain ⟨rfl, rfl⟩ := hp
  obtain ⟨r1, r2, r3, r4, r5, r6, r7, r8, r9, r10⟩ := hr
  dsimp only at *
  unfold attrs
  dsimp only
  simp only [List.append_assoc]
  have len1 : ∀ (size : Nat) (x : Int), size ≤ 4 → (wordsB size [x]).length < 65536 := fun size x h => by rw [wordsL]; simp; omega
  have hz : ∀ {f : Prop}, decide (0 < hv.length) = false → (Rt.mk 0 0 path org pref med next marks clus auth = rtZ → f) → f := fun h k => k (hb (by have := of_decide_eq_false h; omega))
  obtain ⟨l1, hl1, e1⟩ := at_if (last := 0) (k := 1) (size := 1) (there := decide (0 < hv.length)) (xs := [org]) (t := rtZ) (t2 := { rtZ with org := org }) (rest := attrIf 2 4 (decide (0 < hv.length)) path ++ (attrIf 3 4 (decide (0 < hv.length)) [next] ++ (attrIf 4 4 (med != 0) [med] ++ (attrIf 5 4 (pref != 0) [pref] ++ (attrIf 6 4 (decide (0 < marks.length)) marks ++ (attrIf 7 4 (auth != 0) [auth] ++ attrIf 8 4 (decide (0 < clus.length)) clus)))))) (by decide) (by decide) (len1 1 org (by decide))
    (fun _ => by
      have h1 := rd_big 1 org.toNat []
      rw [List.append_nil] at h1
      unfold setA
      rw [if_pos rfl, word_one, h1]
      simp only [Option.map_some]
      rw [num_big 1 _ (by simp; omega), Int.toNat_of_nonneg r1.1])
    (fun h => hz h (fun e => by injection e with _ _ _ e4; rw [e4]; rfl))
  rw [e1]
  obtain ⟨l2, hl2, e2⟩ := at_if (last := l1) (k := 2) (size := 4) (there := decide (0 < hv.length)) (xs := path) (t := { rtZ with org := org }) (t2 := { rtZ with org := org, path := path }) (rest := attrIf 3 4 (decide (0 < hv.length)) [next] ++ (attrIf 4 4 (med != 0) [med] ++ (attrIf 5 4 (pref != 0) [pref] ++ (attrIf 6 4 (decide (0 < marks.length)) marks ++ (attrIf 7 4 (auth != 0) [auth] ++ attrIf 8 4 (decide (0 < clus.length)) clus))))) (by omega) (by decide) (by rw [wordsL]; omega)
    (fun _ => by
      unfold setA
      rw [if_neg (by decide), if_pos rfl, rwords_words (fun x hx => by have := r6 x hx; omega)]
      rfl)
    (fun h => hz h (fun e => by injection e with _ _ e3; rw [e3]; rfl))
  rw [e2]
  obtain ⟨l3, hl3, e3⟩ := at_if (last := l2) (k := 3) (size := 4) (there := decide (0 < hv.length)) (xs := [next]) (t := { rtZ with org := org, path := path }) (t2 := { rtZ with org := org, path := path, next := next }) (rest := attrIf 4 4 (med != 0) [med] ++ (attrIf 5 4 (pref != 0) [pref] ++ (attrIf 6 4 (decide (0 < marks.length)) marks ++ (attrIf 7 4 (auth != 0) [auth] ++ attrIf 8 4 (decide (0 < clus.length)) clus)))) (by omega) (by decide) (len1 4 next (by decide))
    (fun _ => by
      obtain ⟨s1, s2⟩ := set_num (k := 3) hn
      unfold setA
      rw [if_neg (by decide), if_neg (by decide), if_pos rfl, s1]
      simp only [Option.map_some]
      rw [s2])
    (fun h => hz h (fun e => by injection e with _ _ _ _ _ _ e7; rw [e7]; rfl))
  rw [e3]
  obtain ⟨l4, hl4, e4⟩ := at_if (last := l3) (k := 4) (size := 4) (there := med != 0) (xs := [med]) (t := { rtZ with org := org, path := path, next := next }) (t2 := { rtZ with org := org, path := path, next := next, med := med }) (rest := attrIf 5 4 (pref != 0) [pref] ++ (attrIf 6 4 (decide (0 < marks.length)) marks ++ (attrIf 7 4 (auth != 0) [auth] ++ attrIf 8 4 (decide (0 < clus.length)) clus))) (by omega) (by decide) (len1 4 med (by decide))
    (fun _ => by
      obtain ⟨s1, s2⟩ := set_num (k := 4) r2
      unfold setA
      rw [if_neg (by decide), if_neg (by decide), if_neg (by decide), if_pos rfl, s1]
      simp only [Option.map_some]
      rw [s2])
    (fun h => by have e : med = 0 := by simpa using h
                 rw [e]; rfl)
  rw [e4]
  obtain ⟨l5, hl5, e5⟩ := at_if (last := l4) (k := 5) (size := 4) (there := pref != 0) (xs := [pref]) (t := { rtZ with org := org, path := path, next := next, med := med }) (t2 := { rtZ with org := org, path := path, next := next, med := med, pref := pref }) (rest := attrIf 6 4 (decide (0 < marks.length)) marks ++ (attrIf 7 4 (auth != 0) [auth] ++ attrIf 8 4 (decide (0 < clus.length)) clus)) (by omega) (by decide) (len1 4 pref (by decide))
    (fun _ => by
      obtain ⟨s1, s2⟩ := set_num (k := 5) r3
      unfold setA
      rw [if_neg (by decide), if_neg (by decide), if_neg (by decide), if_neg (by decide), if_pos rfl, s1]
      simp only [Option.map_some]
      rw [s2])
    (fun h => by have e : pref = 0 := by simpa using h
                 rw [e]; rfl)
  rw [e5]
  obtain ⟨l6, hl6, e6⟩ := at_if (last := l5) (k := 6) (size := 4) (there := decide (0 < marks.length)) (xs := marks) (t := { rtZ with org := org, path := path, next := next, med := med, pref := pref }) (t2 := { rtZ with org := org, path := path, next := next, med := med, pref := pref, marks := marks }) (rest := attrIf 7 4 (auth != 0) [auth] ++ attrIf 8 4 (decide (0 < clus.length)) clus) (by omega) (by decide) (by rw [wordsL]; omega)
    (fun _ => by
      unfold setA
      rw [if_neg (by decide), if_neg (by decide), if_neg (by decide), if_neg (by decide), if_neg (by decide), if_pos rfl, rwords_words r8]
      rfl)
    (fun h => by have e : marks = [] := List.length_eq_zero_iff.1 (by have := of_decide_eq_false h; omega)
                 rw [e]; rfl)
  rw [e6]
  obtain ⟨l7, hl7, e7⟩ := at_if (last := l6) (k := 7) (size := 4) (there := auth != 0) (xs := [auth]) (t := { rtZ with org := org, path := path, next := next, med := med, pref := pref, marks := marks }) (t2 := { rtZ with org := org, path := path, next := next, med := med, pref := pref, marks := marks, auth := auth }) (rest := attrIf 8 4 (decide (0 < clus.length)) clus) (by omega) (by decide) (len1 4 auth (by decide))
    (fun _ => by
      obtain ⟨s1, s2⟩ := set_num (k := 7) r4
      unfold setA
      rw [if_neg (by decide), if_neg (by decide), if_neg (by decide), if_neg (by decide), if_neg (by decide), if_neg (by decide), if_pos rfl, s1]
      simp only [Option.map_some]
      rw [s2])
    (fun h => by have e : auth = 0 := by simpa using h
                 rw [e]; rfl)
  rw [e7]
  obtain ⟨l8, hl8, e8⟩ := at_if (last := l7) (k := 8) (size := 4) (there := decide (0 < clus.length)) (xs := clus) (t := { rtZ with org := org, path := path, next := next, med := med, pref := pref, marks := marks, auth := auth }) (t2 := { rtZ with org := org, path := path, next := next, med := med, pref := pref, marks := marks, auth := auth, clus := clus }) (rest := []) (by omega) (by decide) (by rw [wordsL]; omega)
    (fun _ => by
      unfold setA
      rw [if_neg (by decide), if_neg (by decide), if_neg (by decide), if_neg (by decide), if_neg (by decide), if_neg (by decide), if_neg (by decide), if_pos rfl, rwords_words r10]
      rfl)
    (fun h => by have e : clus = [] := List.length_eq_zero_iff.1 (by have := of_decide_eq_false h; omega)
                 rw [e]; rfl)
  rw [List.append_nil] at e8
  rw [e8, List.length_nil, attrsR_nil]
  rfl
theorem form_parts {m : Ms} (h : form m = true) (hk : 1 ≤ m.kind ∧ m.kind ≤ 4) :
    (m.kind = 1 → m = { ms0 with kind := 1, dom := m.dom, id := m.id, hold := m.hold }) ∧ (m.kind = 2 → m.dom = 0 ∧ m.id = 0 ∧ m.hold = 0 ∧ m.code = 0 ∧ m.rt.pa = 0 ∧ m.rt.pn = 0 ∧ (m.hv.length = 0 → m.rt = rtZ)) ∧ (m.kind = 3 → m = { ms0 with kind := 3 }) ∧ (m.kind = 4 → m = { ms0 with kind := 4, code := m.code }) := by
  obtain ⟨kind, dom, id, hold, code, lost, hv, rt⟩ := m
  unfold form at h
  dsimp only at *
  refine ⟨?_, ?_, ?_, ?_⟩ <;> intro e <;> subst e
  · rw [if_pos rfl, Bool.and_eq_true, decide_eq_true_iff] at h
    obtain ⟨⟨h1, h2, h3⟩, h4⟩ := h
    rw [List.length_eq_zero_iff] at h2 h3
    rw [h1, h2, h3, bare_zero h4]
    rfl
  · rw [if_neg (by decide), if_pos rfl, Bool.and_eq_true, decide_eq_true_iff] at h
    obtain ⟨⟨h1, h2, h3, h4⟩, h5⟩ := h
    split at h5
    · rw [decide_eq_true_iff] at h5
      exact ⟨h1, h2, h3, h4, h5.1, h5.2, fun h => by omega⟩
    · have e := bare_zero h5
      exact ⟨h1, h2, h3, h4, by rw [e]; rfl, by rw [e]; rfl, fun _ => e⟩
  · rw [if_neg (by decide), if_neg (by decide), if_neg (by decide), Bool.and_eq_true, decide_eq_true_iff] at h
    obtain ⟨⟨h1, h2, h3, h4, h5, h6⟩, h7⟩ := h
    rw [List.length_eq_zero_iff] at h5 h6
    rw [h1, h2, h3, h4, h5, h6, bare_zero h7]
    rfl
  · rw [if_neg (by decide), if_neg (by decide), if_pos rfl, Bool.and_eq_true, decide_eq_true_iff] at h
    obtain ⟨⟨h1, h2, h3, h4, h5⟩, h6⟩ := h
    rw [List.length_eq_zero_iff] at h4 h5
    rw [h1, h2, h3, h4, h5, bare_zero h6]
    rfl
/-- what comes in, as Go's types have it -/
structure InM (m : Ms) : Prop where
  l : ∀ p ∈ m.lost, 0 ≤ p.1 ∧ p.1 < 4294967296
  h : ∀ p ∈ m.hv, 0 ≤ p.1 ∧ p.1 < 4294967296
  n : 0 ≤ m.rt.next ∧ m.rt.next < 4294967296
theorem read_back {m : Ms} (hc : CK m) (hi : InM m) (hlen : (body m).length ≤ 1015) : readB m.kind.toNat (body m) = some (m, body m) := by
  obtain ⟨f1, f2, f3, f4⟩ := form_parts hc.f hc.k
  have hk : m.kind = 1 ∨ m.kind = 2 ∨ m.kind = 3 ∨ m.kind = 4 := by have := hc.k; omega
  rcases hk with hk | hk | hk | hk
  · have hr := hc.r
    unfold inR at hr
    rw [if_pos hk] at hr
    unfold isNm at hr
    simp only [Bool.and_eq_true, Bool.or_eq_true, wi_iff, decide_eq_true_eq] at hr
    obtain ⟨⟨h1, h2⟩, h3⟩ := hr
    have hb : body m = big 1 1 ++ (big 4 m.dom.toNat ++ (big 2 m.hold.toNat ++ big 4 m.id.toNat)) := by unfold body; rw [if_pos hk]; simp only [List.append_assoc]
    have d1 : (body m).drop 1 = big 4 m.dom.toNat ++ (big 2 m.hold.toNat ++ big 4 m.id.toNat) := by rw [hb]; exact List.drop_left' (big_len 1 1)
    have d5 : (body m).drop 5 = big 2 m.hold.toNat ++ big 4 m.id.toNat := by rw [show 5 = 1 + 4 from rfl, ← List.drop_drop, d1]; exact List.drop_left' (big_len 4 _)
    have d7 : (body m).drop 7 = big 4 m.id.toNat := by rw [show 7 = 5 + 2 from rfl, ← List.drop_drop, d5]; exact List.drop_left' (big_len 2 _)
    have hl : (body m).length = 11 := by rw [hb]; simp [big_len]
    have e := f1 hk
    unfold readB
    rw [hk, show (1 : Int).toNat = 1 from rfl, if_pos rfl, if_pos (by omega), d1, d5, d7, List.take_left' (big_len 4 _), List.take_left' (big_len 2 _), List.take_of_length_le (by rw [big_len]; omega)]
    rw [num_big 4 _ (by rw [p256]; omega), num_big 2 _ (by simp; omega), num_big 4 _ (by rw [p256]; omega), Int.toNat_of_nonneg (by omega), Int.toNat_of_nonneg (by omega), Int.toNat_of_nonneg (by omega), ← e]
  · have hr := hc.r
    unfold inR at hr
    rw [if_neg (by omega), if_pos hk] at hr
    have hrr := rr_of hr
    obtain ⟨e1, e2, e3, e4, e5, e6, e7⟩ := f2 hk
    have hb : body m = piece (pfxsB m.lost) ++ (piece (attrs m) ++ pfxsB m.hv) := by unfold body; rw [if_neg (by omega), if_pos hk]; unfold updB; rw [List.append_assoc]
    have hle := hlen
    rw [hb] at hle
    unfold piece at hle
    simp only [List.length_append, big_len] at hle
    have hv : ∀ {ps : List (Int × Int)}, allV ps = true → ∀ p ∈ ps, vld p.1 p.2 = true := fun h p hp => by unfold allV at h; rw [List.all_eq_true] at h; exact h p hp
    have hat := attrs_back hrr ⟨hi.n.1, by have := hi.n.2; omega⟩ ⟨e5, e6⟩ e7
    unfold readB
    rw [hk, show (2 : Int).toNat = 2 from rfl, if_neg (by decide), if_pos rfl, hb]
    rw [rupd_6 (rpiece_piece (by omega) _) (rpiece_piece (by omega) _) (pfxsR_pfxs hi.l (hv hc.vl)) hat (pfxsR_pfxs hi.h (hv hc.vh))]
    rw [Nat.sub_zero, List.take_length]
    obtain ⟨kind, dom, id, hold, code, lost, hvv, rt⟩ := m
    dsimp only at *
    subst hk e1 e2 e3 e4
    unfold updB
    rw [List.append_assoc]
  · have e := f3 hk
    have hb : body m = [] := by unfold body; rw [if_neg (by omega), if_neg (by omega), if_neg (by omega)]
    unfold readB
    rw [hk, show (3 : Int).toNat = 3 from rfl, if_neg (by decide), if_neg (by decide), if_neg (by decide)]
    rw [e] at hb ⊢
    rfl
  · have hr := hc.r
    unfold inR at hr
    rw [if_neg (by omega), if_neg (by omega), if_pos hk, wi_iff] at hr
    have e := f4 hk
    have hb : body m = big 1 m.code.toNat := by unfold body; rw [if_neg (by omega), if_neg (by omega), if_pos hk]
    unfold readB
    rw [hk, show (4 : Int).toNat = 4 from rfl, if_neg (by decide), if_neg (by decide), if_pos rfl, hb, if_pos (by rw [big_len]; omega), List.take_of_length_le (by rw [big_len]; omega), num_big 1 _ (by simp; omega), Int.toNat_of_nonneg hr.1, ← e]
end Go.Proofs.Ytghlgkpfcpcopaa.Pv
