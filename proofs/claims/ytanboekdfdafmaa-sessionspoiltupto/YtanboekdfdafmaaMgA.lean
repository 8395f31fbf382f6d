/- What is read is written as it came, if nothing is passed over: plain. What can be written is read as it was: plain. What can be written is read as it was: attributes, and the whole. Plain. A frame is right; with one byte changed it is not. Plain. -/
import Derived.Test.YtanboekdfdafmaaPwO
namespace Go.Proofs.Ytanboekdfdafmaa.Pv
open Go.Proofs.Ytanboekdfdafmaa.PM
set_option linter.unusedVariables false

theorem big_succ (k n : Nat) : big (k + 1) n = big k (n / 256) ++ [n % 256] := by
  unfold big
  rw [List.range_succ, List.map_append]
  congr 1
  · apply List.map_congr_left
    intro i hi
    have hi2 : i < k := List.mem_range.1 hi
    rw [show 8 * (k + 1 - 1 - i) = 8 + 8 * (k - 1 - i) by omega, Nat.pow_add, ← Nat.div_div_eq_div_mul]
  · simp
theorem num_big : ∀ (k n : Nat), n < 256 ^ k → num (big k n) = n
  | 0, n, h => by
    have : n = 0 := by simpa using h
    subst this
    rfl
  | k + 1, n, h => by
    rw [Nat.pow_succ] at h
    rw [big_succ, num_snoc, num_big k (n / 256) (by omega)]
    omega
theorem big_num : ∀ (k : Nat) (bs : List Nat), bs.length = k → (∀ d ∈ bs, d < 256) → big k (num bs) = bs
  | 0, bs, h, _ => by rw [List.length_eq_zero_iff.1 h]; rfl
  | k + 1, bs, h, hu => by
    obtain ⟨cs, c, rfl⟩ : ∃ cs c, bs = cs ++ [c] := by
      rcases List.eq_nil_or_concat bs with e | ⟨cs, c, e⟩
      · rw [e] at h; cases h
      · exact ⟨cs, c, by simpa using e⟩
    have hc : c < 256 := hu c (by simp)
    have hl : cs.length = k := by simpa using h
    rw [num_snoc, big_succ, show (num cs * 256 + c) / 256 = num cs by omega, show (num cs * 256 + c) % 256 = c by omega, big_num k cs hl (fun d hd => hu d (by simp [hd]))]
theorem take_u8 {xs : List Nat} (hu : ∀ d ∈ xs, d < 256) (k : Nat) : ∀ d ∈ xs.take k, d < 256 := fun d hd => hu d (List.mem_of_mem_take hd)
theorem drop_u8 {xs : List Nat} (hu : ∀ d ∈ xs, d < 256) (k : Nat) : ∀ d ∈ xs.drop k, d < 256 := fun d hd => hu d (List.mem_of_mem_drop hd)
/-- a piece is what it is -/
theorem rpiece_is {r a b : List Nat} (hu : ∀ d ∈ r, d < 256) (h : rpiece r = some (a, b)) : r = piece a ++ b := by
  obtain ⟨h2, h3, h4, h5⟩ := rpiece_len h
  unfold piece
  have e : big 2 a.length = r.take 2 := by
    rw [h3]
    exact big_num 2 _ (by rw [List.length_take]; omega) (take_u8 hu 2)
  rw [e]
  exact h5
theorem readB_same {k : Nat} {xs body : List Nat} {m : Ms} (hu : ∀ d ∈ xs, d < 256) (h : readB k xs = some (m, body)) (hl : body.length = xs.length) : body = xs := by
  unfold readB at h
  split at h
  · split at h
    · cases h; rfl
    · cases h
  · split at h
    · unfold rupd at h
      split at h
      · cases h
      · rename_i lost r1 e1
        split at h
        · cases h
        · rename_i ats hv e2
          split at h
          · cases h
          · rename_i ls e3
            split at h
            · cases h
            · rename_i t kn e4
              split at h
              · cases h
              · rename_i hs e5
                cases h
                have l1 := rpiece_is hu e1
                have l2 := rpiece_is (piece_in e1 hu).2 e2
                have e : ats.take (ats.length - kn) = ats := by
                  apply List.take_of_length_le
                  rw [l1, l2] at hl
                  unfold updB piece at hl
                  simp only [List.length_append, big_len, List.length_take] at hl
                  omega
                rw [e, l1, l2]
                unfold updB
                rw [List.append_assoc]
    · split at h
      · split at h
        · cases h; rfl
        · cases h
      · cases h; rfl
theorem frame_len (k : Nat) (b : List Nat) : (frame k b).length = 9 + b.length := by
  unfold frame
  simp only [List.length_append, big_len, List.length_cons, List.length_nil]
theorem frame_of {xs : List Nat} {kd : Nat} (h9 : 9 ≤ xs.length) (hu : ∀ d ∈ xs, d < 256) (hfr : frE xs = 0) (hk : xs[6]? = some kd) : frame kd (xs.drop 9) = xs := by
  obtain ⟨h1, k, hk2, -, -, hs, hz, h255⟩ := frE_ok (by omega) hfr
  rw [hk] at hk2
  cases hk2
  have e0 : xs.take 4 = [255, 255, 255, 255] := by
    apply List.ext_getElem
    · rw [List.length_take]; simp; omega
    · intro i hi1 hi2
      rw [List.length_take] at hi1
      rw [List.getElem_take, h255 i (by omega) (by omega)]
      have : i = 0 ∨ i = 1 ∨ i = 2 ∨ i = 3 := by omega
      rcases this with rfl | rfl | rfl | rfl <;> rfl
  have e1 : big 2 (9 + (xs.drop 9).length) = (xs.drop 4).take 2 := by
    rw [List.length_drop, show 9 + (xs.length - 9) = xs.length by omega, ← hz]
    exact big_num 2 _ (by rw [List.length_take, List.length_drop]; omega) (take_u8 (drop_u8 hu 4) 2)
  have e2 : big 2 (ssum 65535 (kd :: xs.drop 9)) = (xs.drop 7).take 2 := by
    rw [hs]
    exact big_num 2 _ (by rw [List.length_take, List.length_drop]; omega) (take_u8 (drop_u8 hu 7) 2)
  have e3 : big 1 kd = (xs.drop 6).take 1 := by
    obtain ⟨hlt, e⟩ := List.getElem?_eq_some_iff.1 hk
    rw [List.drop_eq_getElem_cons hlt, e]
    have : kd < 256 := by rw [← e]; exact hu _ (List.getElem_mem hlt)
    simp [big]
    omega
  unfold frame
  rw [e1, e2, e3, ← e0]
  have s1 : ∀ (a k : Nat), xs.drop a = (xs.drop a).take k ++ xs.drop (a + k) := fun a k => by rw [← List.drop_drop, List.take_append_drop]
  have g : xs.take 4 ++ (xs.drop 4) = xs := List.take_append_drop 4 xs
  rw [s1 4 2, s1 6 1, s1 7 2] at g
  simpa [List.append_assoc] using g
theorem dec_cases (xs : List Nat) : (∃ e, dec xs = (ms0, e) ∧ e ≠ 0) ∨ ∃ m kd body, dec xs = (m, 0) ∧ 9 ≤ xs.length ∧ frE xs = 0 ∧ xs[6]? = some kd ∧ 1 ≤ kd ∧ kd ≤ 4 ∧ readB kd (xs.drop 9) = some (m, body) ∧ encE m = 0 ∧ encB m = frame kd body := by
  by_cases hf : frE xs = 0
  · by_cases h9 : xs.length < 9
    · unfold frE at hf
      rw [if_pos h9] at hf
      cases hf
    · obtain ⟨h1, kd, hk, hk1, hk4, -, -, -⟩ := frE_ok h9 hf
      cases hx : readB kd (xs.drop 9) with
      | none => exact .inl ⟨4, dec_none hf hk hx, by decide⟩
      | some q =>
        obtain ⟨m, body⟩ := q
        by_cases hc : encE m = 0 ∧ encB m = frame kd body
        · exact .inr ⟨m, kd, body, by rw [dec_some hf hk hx, if_pos hc], by omega, hf, hk, hk1, hk4, hx, hc.1, hc.2⟩
        · exact .inl ⟨4, by rw [dec_some hf hk hx, if_neg hc], by decide⟩
  · exact .inl ⟨frE xs, by unfold dec; rw [if_pos hf], hf⟩
theorem only_plain {xs : List Nat} {m : Ms} (hu : ∀ d ∈ xs, d < 256) (h : dec xs = (m, 0)) : encE m = 0 ∧ (encB m).length ≤ xs.length ∧ ((encB m).length = xs.length → encB m = xs) := by
  rcases dec_cases xs with ⟨e, he, hne⟩ | ⟨m', kd, body, he, h9, hf, hk, -, -, hx, h1, h2⟩
  · rw [he] at h
    cases h
    exact absurd rfl hne
  · rw [he] at h
    cases h
    obtain ⟨-, -, l3, -⟩ := readB_len hx
    rw [List.length_drop] at l3
    refine ⟨h1, by rw [h2, frame_len]; omega, fun hl => ?_⟩
    rw [h2, frame_len] at hl
    have hb : body = xs.drop 9 := readB_same (drop_u8 hu 9) hx (by rw [List.length_drop]; omega)
    rw [h2, hb]
    exact frame_of h9 hu hf hk
theorem dec_err {xs : List Nat} {m : Ms} {e : Int} (h : dec xs = (m, e)) (he : e ≠ 0) : m = ms0 := by
  rcases dec_cases xs with ⟨e', he', hne⟩ | ⟨m', kd, body, he', -⟩
  · rw [he'] at h; cases h; rfl
  · rw [he'] at h; cases h; exact absurd rfl he
end Go.Proofs.Ytanboekdfdafmaa.Pv
namespace Go.Proofs.Ytanboekdfdafmaa.Pv
open Go.Proofs.Ytanboekdfdafmaa.PM
set_option linter.unusedVariables false

theorem rd_big (k n : Nat) (rest : List Nat) : rd k (big k n ++ rest) = some (big k n, rest) := by
  rw [rd_yes (by rw [List.length_append, big_len]; omega), List.take_left' (big_len k n), List.drop_left' (big_len k n)]
theorem rd_all {v : List Nat} {k : Nat} (h : v.length = k) (rest : List Nat) : rd k (v ++ rest) = some (v, rest) := by
  rw [rd_yes (by rw [List.length_append]; omega), List.take_left' h, List.drop_left' h]
theorem rpiece_piece {v : List Nat} (hv : v.length < 65536) (rest : List Nat) : rpiece (piece v ++ rest) = some (v, rest) := by
  unfold rpiece piece
  rw [List.append_assoc, rd_big]
  dsimp only
  rw [num_big 2 _ (by simpa using hv), rd_all rfl]
/-- numbers of four bytes -/
theorem wordsL (size : Nat) : ∀ xs : List Int, (wordsB size xs).length = size * xs.length
  | [] => by simp [wordsB]
  | x :: xs => by
    have e : wordsB size (x :: xs) = big size x.toNat ++ wordsB size xs := rfl
    rw [e, List.length_append, big_len, wordsL size xs, List.length_cons, Nat.mul_add]
    omega
theorem wordsB_drop : ∀ (xs : List Int) (i : Nat) (h : i < xs.length), (wordsB 4 xs).drop (4 * i) = big 4 xs[i].toNat ++ wordsB 4 (xs.drop (i + 1))
  | x :: xs, 0, _ => rfl
  | x :: xs, i + 1, h => by
    have e : wordsB 4 (x :: xs) = big 4 x.toNat ++ wordsB 4 xs := rfl
    rw [e, show 4 * (i + 1) = 4 + 4 * i by omega, ← List.drop_drop, List.drop_left' (big_len 4 _), wordsB_drop xs i (by simpa using h)]
    simp
theorem p256 : (256 : Nat) ^ 4 = 4294967296 := by decide
theorem rwords_words {xs : List Int} (h : ∀ x ∈ xs, 0 ≤ x ∧ x ≤ 4294967295) : rwords (wordsB 4 xs) = some xs := by
  have e : wds (wordsB 4 xs) xs.length = xs := by
    unfold wds
    apply List.ext_getElem
    · simp
    · intro i h1 h2
      rw [List.getElem_map, List.getElem_range]
      unfold wd
      have hx := h _ (List.getElem_mem h2)
      rw [wordsB_drop xs i h2, List.take_left' (big_len 4 _), num_big 4 _ (by rw [p256]; omega)]
      omega
  unfold rwords
  rw [wordsL, if_pos (by omega), show 4 * xs.length / 4 = xs.length by omega, e]
theorem word_one (size : Nat) (x : Int) : wordsB size [x] = big size x.toNat := by simp [wordsB]
/-- prefixes -/
theorem dvd_shift {a n : Int} (h0 : 0 ≤ n) (h1 : n ≤ 32) (ha : 0 ≤ a) (h : a % psz n = 0) : a.toNat / 2 ^ (32 - 8 * bsz n.toNat) * 2 ^ (32 - 8 * bsz n.toNat) = a.toNat := by
  have h2 : (32 - 8 * bsz n.toNat) ≤ 32 - n.toNat := by unfold bsz; omega
  have h3 : 2 ^ (32 - n.toNat) ∣ a.toNat := by
    rw [psz_nat] at h
    have h4 : ((2 ^ (32 - n.toNat) : Nat) : Int) ∣ (a.toNat : Int) := by rw [Int.toNat_of_nonneg ha]; exact Int.dvd_of_emod_eq_zero h
    exact Int.natCast_dvd_natCast.1 h4
  exact Nat.div_mul_cancel (Nat.dvd_trans (Nat.pow_dvd_pow 2 h2) h3)
theorem rpfx_pfx {p : Int × Int} (hp : 0 ≤ p.1 ∧ p.1 < 4294967296) (hv : vld p.1 p.2 = true) (rest : List Nat) : rpfx (pfxB p ++ rest) = some (p, rest) := by
  obtain ⟨a, n⟩ := p
  obtain ⟨h0, h1, h2⟩ := (vld_iff a n).1 hv
  dsimp only at hp
  have hz := bsz_le (n := n.toNat) (by omega)
  have e1 : pfxB (a, n) ++ rest = big 1 n.toNat ++ (big (bsz n.toNat) (a.toNat / 2 ^ (32 - 8 * bsz n.toNat)) ++ rest) := by unfold pfxB; rw [List.append_assoc]
  rw [e1]
  have l1 := big_len 1 n.toNat
  have l2 := big_len (bsz n.toNat) (a.toNat / 2 ^ (32 - 8 * bsz n.toNat))
  have ht : num ((big 1 n.toNat ++ (big (bsz n.toNat) (a.toNat / 2 ^ (32 - 8 * bsz n.toNat)) ++ rest)).take 1) = n.toNat := by rw [List.take_left' l1, num_big 1 _ (by simp; omega)]
  have hdr : (big 1 n.toNat ++ (big (bsz n.toNat) (a.toNat / 2 ^ (32 - 8 * bsz n.toNat)) ++ rest)).drop 1 = big (bsz n.toNat) (a.toNat / 2 ^ (32 - 8 * bsz n.toNat)) ++ rest := List.drop_left' l1
  have hq : num ((big (bsz n.toNat) (a.toNat / 2 ^ (32 - 8 * bsz n.toNat)) ++ rest).take (bsz n.toNat)) = a.toNat / 2 ^ (32 - 8 * bsz n.toNat) := by
    rw [List.take_left' l2, num_big]
    have e3 : (256 : Nat) ^ bsz n.toNat * 2 ^ (32 - 8 * bsz n.toNat) = 2 ^ 32 := by
      have e4 : (256 : Nat) ^ bsz n.toNat = 2 ^ (8 * bsz n.toNat) := by rw [Nat.pow_mul]
      rw [e4, ← Nat.pow_add, show 8 * bsz n.toNat + (32 - 8 * bsz n.toNat) = 32 by omega]
    rw [Nat.div_lt_iff_lt_mul (Nat.pow_pos (by decide)), e3]
    have : (2 : Nat) ^ 32 = 4294967296 := by decide
    omega
  rw [rpfx_ok (z := bsz n.toNat) (q := a.toNat / 2 ^ (32 - 8 * bsz n.toNat)) (by rw [List.length_append, l1]; omega) ht (by omega) rfl (by rw [hdr, List.length_append, l2]; exact Nat.le_add_right _ _) (by rw [hdr]; exact hq), hdr, List.drop_left' l2]
  unfold pfV
  rw [dvd_shift h0 h1 hp.1 h2, Int.toNat_of_nonneg hp.1, Int.toNat_of_nonneg h0]
theorem pfxsR_pfxs : ∀ {ps : List (Int × Int)}, (∀ p ∈ ps, 0 ≤ p.1 ∧ p.1 < 4294967296) → (∀ p ∈ ps, vld p.1 p.2 = true) → pfxsR (pfxsB ps) = some ps
  | [], _, _ => rfl
  | p :: ps, hp, hv => by
    have e : pfxsB (p :: ps) = pfxB p ++ pfxsB ps := rfl
    have h1 : 0 < (pfxB p ++ pfxsB ps).length := by unfold pfxB; rw [List.length_append, List.length_append, big_len]; omega
    rw [e, pfxsR_cons h1, rpfx_pfx (hp p (List.mem_cons_self ..)) (hv p (List.mem_cons_self ..))]
    dsimp only
    rw [pfxsR_pfxs (fun q hq => hp q (List.mem_cons_of_mem _ hq)) (fun q hq => hv q (List.mem_cons_of_mem _ hq))]
end Go.Proofs.Ytanboekdfdafmaa.Pv
namespace Go.Proofs.Ytanboekdfdafmaa.Pv
open Go.Proofs.Ytanboekdfdafmaa.PM
set_option linter.unusedVariables false

theorem at_one {last k : Nat} {t t2 : Rt} {v rest : List Nat} (hl : last < k) (h8 : k ≤ 8) (hv : v.length < 65536) (hs : setA t k v = some t2) : attrsR last t (attr k v ++ rest).length (attr k v ++ rest) = attrsR k t2 rest.length rest := by
  have e0 : attr k v ++ rest = big 1 k ++ (piece v ++ rest) := by unfold attr; rw [List.append_assoc]
  have l1 := big_len 1 k
  refine attrsR_set (v := v) (by rw [e0, List.length_append, l1]; omega) ?_ ?_ (by omega) ?_ hs
  · rw [e0, List.take_left' l1, num_big 1 _ (by simp; omega)]
  · rw [e0, List.drop_left' l1]
    exact rpiece_piece hv rest
  · unfold passed
    exact wi_not.2 (by omega)
theorem at_if {last k size : Nat} {there : Bool} {xs : List Int} {t t2 : Rt} {rest : List Nat} (hl : last < k) (h8 : k ≤ 8) (hv : (wordsB size xs).length < 65536) (hs : there = true → setA t k (wordsB size xs) = some t2) (hn : there = false → t2 = t) :
    ∃ last', last' ≤ k ∧ attrsR last t (attrIf k size there xs ++ rest).length (attrIf k size there xs ++ rest) = attrsR last' t2 rest.length rest := by
  unfold attrIf
  cases there with
  | true =>
    rw [if_pos rfl]
    exact ⟨k, Nat.le_refl _, at_one hl h8 hv (hs rfl)⟩
  | false =>
    rw [if_neg (by decide), List.nil_append, hn rfl]
    exact ⟨last, by omega, rfl⟩
theorem set_num {k : Nat} {x : Int} (hx : 0 ≤ x ∧ x ≤ 4294967295) : rd 4 (wordsB 4 [x]) = some (big 4 x.toNat, []) ∧ (num (big 4 x.toNat) : Int) = x := by
  have h1 := rd_big 4 x.toNat []
  rw [List.append_nil] at h1
  refine ⟨by rw [word_one]; exact h1, ?_⟩
  rw [num_big 4 _ (by rw [p256]; omega)]
  omega
theorem bare_zero {r : Rt} (h : bare r = true) : r = rtZ := by
  unfold bare at h
  rw [decide_eq_true_iff] at h
  obtain ⟨h1, h2, h3, h4, h5, h6, h7, h8, h9, h10⟩ := h
  obtain ⟨pa, pn, path, org, pref, med, next, marks, clus, auth⟩ := r
  dsimp only at *
  rw [List.length_eq_zero_iff] at h8 h9 h10
  subst h1 h2 h3 h4 h5 h6 h7 h8 h9 h10
  rfl
theorem attrs_back {m : Ms} (hr : RR m.rt) (hn : 0 ≤ m.rt.next ∧ m.rt.next ≤ 4294967295) (hp : m.rt.pa = 0 ∧ m.rt.pn = 0) (hb : m.hv.length = 0 → m.rt = rtZ) : attrsR 0 rtZ (attrs m).length (attrs m) = some (m.rt, 0) := by
  obtain ⟨kind, dom, id, hold, code, lost, hv, rt⟩ := m
  obtain ⟨pa, pn, path, org, pref, med, next, marks, clus, auth⟩ := rt
  dsimp only at *
  obtain ⟨rfl, rfl⟩ := hp
  obtain ⟨r1, r2, r3, r4, r5, r6, r7, r8, r9, r10⟩ := hr
  dsimp only at *
  unfold attrs
  dsimp only
  simp only [List.append_assoc]
  have len1 : ∀ (size : Nat) (x : Int), size ≤ 4 → (wordsB size [x]).length < 65536 := fun size x h => by rw [wordsL]; simp; omega
  have hz : ∀ {f : Prop}, decide (0 < hv.length) = false → (Rt.mk 0 0 path org pref med next marks clus auth = rtZ → f) → f := fun h k => k (hb (by have := of_decide_eq_false h; omega))
  obtain ⟨l1, hl1, e1⟩ := at_if (last := 0) (k := 1) (size := 1) (there := decide (0 < hv.length)) (xs := [org]) (t := rtZ) (t2 := { rtZ with org := org }) (rest := attrIf 2 4 (decide (0 < hv.length)) path ++ (attrIf 3 4 (decide (0 < hv.length)) [next] ++ (attrIf 4 4 (med != 0) [med] ++ (attrIf 5 4 (pref != 0) [pref] ++ (attrIf 6 4 (decide (0 < marks.length)) marks ++ (attrIf 7 4 (auth != 0) [auth] ++ attrIf 8 4 (decide (0 < clus.length)) clus)))))) (by decide) (by decide) (len1 1 org (by decide))
    (fun _ => by
      have h1 := rd_big 1 org.toNat []
      rw [List.append_nil] at h1
      unfold setA
      rw [if_pos rfl, word_one, h1]
      simp only [Option.map_some]
      rw [num_big 1 _ (by simp; omega), Int.toNat_of_nonneg r1.1])
    (fun h => hz h (fun e => by injection e with _ _ _ e4; rw [e4]; rfl))
  rw [e1]
  obtain ⟨l2, hl2, e2⟩ := at_if (last := l1) (k := 2) (size := 4) (there := decide (0 < hv.length)) (xs := path) (t := { rtZ with org := org }) (t2 := { rtZ with org := org, path := path }) (rest := attrIf 3 4 (decide (0 < hv.length)) [next] ++ (attrIf 4 4 (med != 0) [med] ++ (attrIf 5 4 (pref != 0) [pref] ++ (attrIf 6 4 (decide (0 < marks.length)) marks ++ (attrIf 7 4 (auth != 0) [auth] ++ attrIf 8 4 (decide (0 < clus.length)) clus))))) (by omega) (by decide) (by rw [wordsL]; omega)
    (fun _ => by
      unfold setA
      rw [if_neg (by decide), if_pos rfl, rwords_words (fun x hx => by have := r6 x hx; omega)]
      rfl)
    (fun h => hz h (fun e => by injection e with _ _ e3; rw [e3]; rfl))
  rw [e2]
  obtain ⟨l3, hl3, e3⟩ := at_if (last := l2) (k := 3) (size := 4) (there := decide (0 < hv.length)) (xs := [next]) (t := { rtZ with org := org, path := path }) (t2 := { rtZ with org := org, path := path, next := next }) (rest := attrIf 4 4 (med != 0) [med] ++ (attrIf 5 4 (pref != 0) [pref] ++ (attrIf 6 4 (decide (0 < marks.length)) marks ++ (attrIf 7 4 (auth != 0) [auth] ++ attrIf 8 4 (decide (0 < clus.length)) clus)))) (by omega) (by decide) (len1 4 next (by decide))
    (fun _ => by
      obtain ⟨s1, s2⟩ := set_num (k := 3) hn
      unfold setA
      rw [if_neg (by decide), if_neg (by decide), if_pos rfl, s1]
      simp only [Option.map_some]
      rw [s2])
    (fun h => hz h (fun e => by injection e with _ _ _ _ _ _ e7; rw [e7]; rfl))
  rw [e3]
  obtain ⟨l4, hl4, e4⟩ := at_if (last := l3) (k := 4) (size := 4) (there := med != 0) (xs := [med]) (t := { rtZ with org := org, path := path, next := next }) (t2 := { rtZ with org := org, path := path, next := next, med := med }) (rest := attrIf 5 4 (pref != 0) [pref] ++ (attrIf 6 4 (decide (0 < marks.length)) marks ++ (attrIf 7 4 (auth != 0) [auth] ++ attrIf 8 4 (decide (0 < clus.length)) clus))) (by omega) (by decide) (len1 4 med (by decide))
    (fun _ => by
      obtain ⟨s1, s2⟩ := set_num (k := 4) r2
      unfold setA
      rw [if_neg (by decide), if_neg (by decide), if_neg (by decide), if_pos rfl, s1]
      simp only [Option.map_some]
      rw [s2])
    (fun h => by have e : med = 0 := by simpa using h
                 rw [e]; rfl)
  rw [e4]
  obtain ⟨l5, hl5, e5⟩ := at_if (last := l4) (k := 5) (size := 4) (there := pref != 0) (xs := [pref]) (t := { rtZ with org := org, path := path, next := next, med := med }) (t2 := { rtZ with org := org, path := path, next := next, med := med, pref := pref }) (rest := attrIf 6 4 (decide (0 < marks.length)) marks ++ (attrIf 7 4 (auth != 0) [auth] ++ attrIf 8 4 (decide (0 < clus.length)) clus)) (by omega) (by decide) (len1 4 pref (by decide))
    (fun _ => by
      obtain ⟨s1, s2⟩ := set_num (k := 5) r3
      unfold setA
      rw [if_neg (by decide), if_neg (by decide), if_neg (by decide), if_neg (by decide), if_pos rfl, s1]
      simp only [Option.map_some]
      rw [s2])
    (fun h => by have e : pref = 0 := by simpa using h
                 rw [e]; rfl)
  rw [e5]
  obtain ⟨l6, hl6, e6⟩ := at_if (last := l5) (k := 6) (size := 4) (there := decide (0 < marks.length)) (xs := marks) (t := { rtZ with org := org, path := path, next := next, med := med, pref := pref }) (t2 := { rtZ with org := org, path := path, next := next, med := med, pref := pref, marks := marks }) (rest := attrIf 7 4 (auth != 0) [auth] ++ attrIf 8 4 (decide (0 < clus.length)) clus) (by omega) (by decide) (by rw [wordsL]; omega)
    (fun _ => by
      unfold setA
      rw [if_neg (by decide), if_neg (by decide), if_neg (by decide), if_neg (by decide), if_neg (by decide), if_pos rfl, rwords_words r8]
      rfl)
    (fun h => by have e : marks = [] := List.length_eq_zero_iff.1 (by have := of_decide_eq_false h; omega)
                 rw [e]; rfl)
  rw [e6]
  obtain ⟨l7, hl7, e7⟩ := at_if (last := l6) (k := 7) (size := 4) (there := auth != 0) (xs := [auth]) (t := { rtZ with org := org, path := path, next := next, med := med, pref := pref, marks := marks }) (t2 := { rtZ with org := org, path := path, next := next, med := med, pref := pref, marks := marks, auth := auth }) (rest := attrIf 8 4 (decide (0 < clus.length)) clus) (by omega) (by decide) (len1 4 auth (by decide))
    (fun _ => by
      obtain ⟨s1, s2⟩ := set_num (k := 7) r4
      unfold setA
      rw [if_neg (by decide), if_neg (by decide), if_neg (by decide), if_neg (by decide), if_neg (by decide), if_neg (by decide), if_pos rfl, s1]
      simp only [Option.map_some]
      rw [s2])
    (fun h => by have e : auth = 0 := by simpa using h
                 rw [e]; rfl)
  rw [e7]
  obtain ⟨l8, hl8, e8⟩ := at_if (last := l7) (k := 8) (size := 4) (there := decide (0 < clus.length)) (xs := clus) (t := { rtZ with org := org, path := path, next := next, med := med, pref := pref, marks := marks, auth := auth }) (t2 := { rtZ with org := org, path := path, next := next, med := med, pref := pref, marks := marks, auth := auth, clus := clus }) (rest := []) (by omega) (by decide) (by rw [wordsL]; omega)
    (fun _ => by
      unfold setA
      rw [if_neg (by decide), if_neg (by decide), if_neg (by decide), if_neg (by decide), if_neg (by decide), if_neg (by decide), if_neg (by decide), if_pos rfl, rwords_words r10]
      rfl)
    (fun h => by have e : clus = [] := List.length_eq_zero_iff.1 (by have := of_decide_eq_false h; omega)
                 rw [e]; rfl)
  rw [List.append_nil] at e8
  rw [e8, List.length_nil, attrsR_nil]
  rfl
theorem form_parts {m : Ms} (h : form m = true) (hk : 1 ≤ m.kind ∧ m.kind ≤ 4) :
    (m.kind = 1 → m = { ms0 with kind := 1, dom := m.dom, id := m.id, hold := m.hold }) ∧ (m.kind = 2 → m.dom = 0 ∧ m.id = 0 ∧ m.hold = 0 ∧ m.code = 0 ∧ m.rt.pa = 0 ∧ m.rt.pn = 0 ∧ (m.hv.length = 0 → m.rt = rtZ)) ∧ (m.kind = 3 → m = { ms0 with kind := 3 }) ∧ (m.kind = 4 → m = { ms0 with kind := 4, code := m.code }) := by
  obtain ⟨kind, dom, id, hold, code, lost, hv, rt⟩ := m
  unfold form at h
  dsimp only at *
  refine ⟨?_, ?_, ?_, ?_⟩ <;> intro e <;> subst e
  · rw [if_pos rfl, Bool.and_eq_true, decide_eq_true_iff] at h
    obtain ⟨⟨h1, h2, h3⟩, h4⟩ := h
    rw [List.length_eq_zero_iff] at h2 h3
    rw [h1, h2, h3, bare_zero h4]
    rfl
  · rw [if_neg (by decide), if_pos rfl, Bool.and_eq_true, decide_eq_true_iff] at h
    obtain ⟨⟨h1, h2, h3, h4⟩, h5⟩ := h
    split at h5
    · rw [decide_eq_true_iff] at h5
      exact ⟨h1, h2, h3, h4, h5.1, h5.2, fun h => by omega⟩
    · have e := bare_zero h5
      exact ⟨h1, h2, h3, h4, by rw [e]; rfl, by rw [e]; rfl, fun _ => e⟩
  · rw [if_neg (by decide), if_neg (by decide), if_neg (by decide), Bool.and_eq_true, decide_eq_true_iff] at h
    obtain ⟨⟨h1, h2, h3, h4, h5, h6⟩, h7⟩ := h
    rw [List.length_eq_zero_iff] at h5 h6
    rw [h1, h2, h3, h4, h5, h6, bare_zero h7]
    rfl
  · rw [if_neg (by decide), if_neg (by decide), if_pos rfl, Bool.and_eq_true, decide_eq_true_iff] at h
    obtain ⟨⟨h1, h2, h3, h4, h5⟩, h6⟩ := h
    rw [List.length_eq_zero_iff] at h4 h5
    rw [h1, h2, h3, h4, h5, bare_zero h6]
    rfl
/-- what comes in, as Go's types have it -/
structure InM (m : Ms) : Prop where
  l : ∀ p ∈ m.lost, 0 ≤ p.1 ∧ p.1 < 4294967296
  h : ∀ p ∈ m.hv, 0 ≤ p.1 ∧ p.1 < 4294967296
  n : 0 ≤ m.rt.next ∧ m.rt.next < 4294967296
theorem read_back {m : Ms} (hc : CK m) (hi : InM m) (hlen : (body m).length ≤ 1015) : readB m.kind.toNat (body m) = some (m, body m) := by
  obtain ⟨f1, f2, f3, f4⟩ := form_parts hc.f hc.k
  have hk : m.kind = 1 ∨ m.kind = 2 ∨ m.kind = 3 ∨ m.kind = 4 := by have := hc.k; omega
  rcases hk with hk | hk | hk | hk
  · have hr := hc.r
    unfold inR at hr
    rw [if_pos hk] at hr
    unfold isNm at hr
    simp only [Bool.and_eq_true, Bool.or_eq_true, wi_iff, decide_eq_true_eq] at hr
    obtain ⟨⟨h1, h2⟩, h3⟩ := hr
    have hb : body m = big 1 1 ++ (big 4 m.dom.toNat ++ (big 2 m.hold.toNat ++ big 4 m.id.toNat)) := by unfold body; rw [if_pos hk]; simp only [List.append_assoc]
    have d1 : (body m).drop 1 = big 4 m.dom.toNat ++ (big 2 m.hold.toNat ++ big 4 m.id.toNat) := by rw [hb]; exact List.drop_left' (big_len 1 1)
    have d5 : (body m).drop 5 = big 2 m.hold.toNat ++ big 4 m.id.toNat := by rw [show 5 = 1 + 4 from rfl, ← List.drop_drop, d1]; exact List.drop_left' (big_len 4 _)
    have d7 : (body m).drop 7 = big 4 m.id.toNat := by rw [show 7 = 5 + 2 from rfl, ← List.drop_drop, d5]; exact List.drop_left' (big_len 2 _)
    have hl : (body m).length = 11 := by rw [hb]; simp [big_len]
    have e := f1 hk
    unfold readB
    rw [hk, show (1 : Int).toNat = 1 from rfl, if_pos rfl, if_pos (by omega), d1, d5, d7, List.take_left' (big_len 4 _), List.take_left' (big_len 2 _), List.take_of_length_le (by rw [big_len]; omega)]
    rw [num_big 4 _ (by rw [p256]; omega), num_big 2 _ (by simp; omega), num_big 4 _ (by rw [p256]; omega), Int.toNat_of_nonneg (by omega), Int.toNat_of_nonneg (by omega), Int.toNat_of_nonneg (by omega), ← e]
  · have hr := hc.r
    unfold inR at hr
    rw [if_neg (by omega), if_pos hk] at hr
    have hrr := rr_of hr
    obtain ⟨e1, e2, e3, e4, e5, e6, e7⟩ := f2 hk
    have hb : body m = piece (pfxsB m.lost) ++ (piece (attrs m) ++ pfxsB m.hv) := by unfold body; rw [if_neg (by omega), if_pos hk]; unfold updB; rw [List.append_assoc]
    have hle := hlen
    rw [hb] at hle
    unfold piece at hle
    simp only [List.length_append, big_len] at hle
    have hv : ∀ {ps : List (Int × Int)}, allV ps = true → ∀ p ∈ ps, vld p.1 p.2 = true := fun h p hp => by unfold allV at h; rw [List.all_eq_true] at h; exact h p hp
    have hat := attrs_back hrr ⟨hi.n.1, by have := hi.n.2; omega⟩ ⟨e5, e6⟩ e7
    unfold readB
    rw [hk, show (2 : Int).toNat = 2 from rfl, if_neg (by decide), if_pos rfl, hb]
    rw [rupd_6 (rpiece_piece (by omega) _) (rpiece_piece (by omega) _) (pfxsR_pfxs hi.l (hv hc.vl)) hat (pfxsR_pfxs hi.h (hv hc.vh))]
    rw [Nat.sub_zero, List.take_length]
    obtain ⟨kind, dom, id, hold, code, lost, hvv, rt⟩ := m
    dsimp only at *
    subst hk e1 e2 e3 e4
    unfold updB
    rw [List.append_assoc]
  · have e := f3 hk
    have hb : body m = [] := by unfold body; rw [if_neg (by omega), if_neg (by omega), if_neg (by omega)]
    unfold readB
    rw [hk, show (3 : Int).toNat = 3 from rfl, if_neg (by decide), if_neg (by decide), if_neg (by decide)]
    rw [e] at hb ⊢
    rfl
  · have hr := hc.r
    unfold inR at hr
    rw [if_neg (by omega), if_neg (by omega), if_pos hk, wi_iff] at hr
    have e := f4 hk
    have hb : body m = big 1 m.code.toNat := by unfold body; rw [if_neg (by omega), if_neg (by omega), if_pos hk]
    unfold readB
    rw [hk, show (4 : Int).toNat = 4 from rfl, if_neg (by decide), if_neg (by decide), if_pos rfl, hb, if_pos (by rw [big_len]; omega), List.take_of_length_le (by rw [big_len]; omega), num_big 1 _ (by simp; omega), Int.toNat_of_nonneg hr.1, ← e]
end Go.Proofs.Ytanboekdfdafmaa.Pv
namespace Go.Proofs.Ytanboekdfdafmaa.Pv
open Go.Proofs.Ytanboekdfdafmaa.PM
set_option linter.unusedVariables false

theorem frame_drops (k : Nat) (b : List Nat) : (frame k b).take 4 = [255, 255, 255, 255] ∧ ((frame k b).drop 4).take 2 = big 2 (9 + b.length) ∧ ((frame k b).drop 6).take 1 = big 1 k ∧ ((frame k b).drop 7).take 2 = big 2 (ssum 65535 (k :: b)) ∧ (frame k b).drop 9 = b := by
  have e : frame k b = [255, 255, 255, 255] ++ (big 2 (9 + b.length) ++ (big 1 k ++ (big 2 (ssum 65535 (k :: b)) ++ b))) := by unfold frame; simp only [List.append_assoc]
  have d4 : (frame k b).drop 4 = big 2 (9 + b.length) ++ (big 1 k ++ (big 2 (ssum 65535 (k :: b)) ++ b)) := by rw [e]; rfl
  have d6 : (frame k b).drop 6 = big 1 k ++ (big 2 (ssum 65535 (k :: b)) ++ b) := by rw [show 6 = 4 + 2 from rfl, ← List.drop_drop, d4]; exact List.drop_left' (big_len 2 _)
  have d7 : (frame k b).drop 7 = big 2 (ssum 65535 (k :: b)) ++ b := by rw [show 7 = 6 + 1 from rfl, ← List.drop_drop, d6]; exact List.drop_left' (big_len 1 _)
  have d9 : (frame k b).drop 9 = b := by rw [show 9 = 7 + 2 from rfl, ← List.drop_drop, d7]; exact List.drop_left' (big_len 2 _)
  exact ⟨by rw [e]; rfl, by rw [d4]; exact List.take_left' (big_len 2 _), by rw [d6]; exact List.take_left' (big_len 1 _), by rw [d7]; exact List.take_left' (big_len 2 _), d9⟩
theorem frame_six {k : Nat} (hk : k < 256) (b : List Nat) : (frame k b)[6]? = some k := by
  obtain ⟨-, -, h, -, -⟩ := frame_drops k b
  have h1 : (((frame k b).drop 6).take 1)[0]? = (frame k b)[6]? := by simp
  rw [← h1, h]
  simp [big]
  omega
theorem frame_right {k : Nat} {b : List Nat} (hk : 1 ≤ k ∧ k ≤ 4) (hl : b.length ≤ 1015) (hu : ∀ d ∈ b, d < 256) : frE (frame k b) = 0 := by
  obtain ⟨h1, h2, h3, h4, h5⟩ := frame_drops k b
  have hlen := frame_len k b
  have h6 := frame_six (k := k) (by omega) b
  have n2 : num (big 2 (9 + b.length)) = 9 + b.length := num_big 2 _ (by simp; omega)
  have hb : bgE (frame k b) = 0 := by
    unfold bgE
    rw [h1, h2, n2, if_neg (by decide), if_neg (by omega)]
  have hs : ssum 65535 (k :: b) < 65536 := ssum_lt _ _ (by decide) (fun d hd => by
    rcases List.mem_cons.1 hd with e | e
    · omega
    · exact hu d e)
  have n7 : num (big 2 (ssum 65535 (k :: b))) = ssum 65535 (k :: b) := num_big 2 _ (by simpa using hs)
  unfold frE
  rw [hlen, if_neg (by omega), hb, if_neg (by simp), h2, n2, if_neg (by simp), h4, n7, h6, h5]
  simp only [Option.getD_some]
  rw [if_neg (by simp), if_neg (by rw [isK_iff.2 ⟨by omega, by omega⟩]; decide)]
theorem dec_back {m : Ms} (he : encE m = 0) (hi : InM m) : dec (encB m) = (m, 0) := by
  unfold encE at he
  split at he
  · rename_i hc
    have hck := ck_of hc
    split at he
    · cases he
    · split at he
      · cases he
      · rename_i hl1 hl2
        have he0 : encE m = 0 := by unfold encE; rw [if_pos hc, if_neg hl1, if_neg hl2]
        have hB : encB m = frame m.kind.toNat (body m) := by unfold encB; rw [if_pos he0]
        have hk := hck.k
        have hf := frame_right (k := m.kind.toNat) (b := body m) (by omega) (by omega) (body_u8 m)
        obtain ⟨-, -, -, -, h5⟩ := frame_drops m.kind.toNat (body m)
        rw [hB, dec_some hf (frame_six (by omega) _) (by rw [h5]; exact read_back hck hi (by omega)), if_pos ⟨he0, hB⟩]
  · rename_i hc
    exact absurd he hc
/-- the sum tells one byte from another -/
theorem sbit_inj {a b : Nat} (ha : a < 65536) (hb : b < 65536) (h : sbit a = sbit b) : a = b := by
  unfold sbit at h
  have qa : a / 32768 = 0 ∨ a / 32768 = 1 := by omega
  have qb : b / 32768 = 0 ∨ b / 32768 = 1 := by omega
  have par : ∀ x q : Nat, (x * 2 % 65536 ^^^ q * 4129) % 2 = q % 2 := fun x q => by
    have e1 : (x * 2 % 65536 ^^^ q * 4129) % 2 = ((x * 2 % 65536) % 2 ^^^ (q * 4129) % 2) := by
      have := @Nat.xor_mod_two_pow (x * 2 % 65536) (q * 4129) 1
      simpa using this
    rw [e1]
    have e2 : (x * 2 % 65536) % 2 = 0 := by omega
    have e3 : (q * 4129) % 2 = q % 2 := by omega
    rw [e2, e3]
    simp
  have h2 : (a / 32768) % 2 = (b / 32768) % 2 := by
    have e1 := par a (a / 32768)
    have e2 := par b (b / 32768)
    rw [h] at e1
    exact e1.symm.trans e2
  have h3 : a / 32768 = b / 32768 := by omega
  rw [h3] at h
  have h4 : a * 2 % 65536 = b * 2 % 65536 := by
    have e := congrArg (fun z => z ^^^ b / 32768 * 4129) h
    simp only [Nat.xor_assoc, Nat.xor_self, Nat.xor_zero] at e
    exact e
  omega
theorem sbits_inj : ∀ (k a b : Nat), a < 65536 → b < 65536 → sbits k a = sbits k b → a = b
  | 0, a, b, _, _, h => h
  | k + 1, a, b, ha, hb, h => sbit_inj ha hb (sbits_inj k _ _ (sbit_lt ha) (sbit_lt hb) h)
theorem xor_inj {a b c : Nat} (h : a ^^^ c = b ^^^ c) : a = b := by
  have e := congrArg (fun z => z ^^^ c) h
  simpa [Nat.xor_assoc] using e
theorem stir_injS {s t c : Nat} (hs : s < 65536) (ht : t < 65536) (hc : c < 256) (h : stir s c = stir t c) : s = t :=
  xor_inj (sbits_inj 8 _ _ (xor_lt16 hs (by omega)) (xor_lt16 ht (by omega)) h)
theorem stir_injC {s c d : Nat} (hs : s < 65536) (hc : c < 256) (hd : d < 256) (h : stir s c = stir s d) : c = d := by
  have e := sbits_inj 8 _ _ (xor_lt16 hs (by omega)) (xor_lt16 hs (by omega)) h
  rw [Nat.xor_comm, Nat.xor_comm s] at e
  have := xor_inj e
  omega
theorem ssum_injS : ∀ {xs : List Nat} {s t : Nat}, s < 65536 → t < 65536 → (∀ d ∈ xs, d < 256) → ssum s xs = ssum t xs → s = t
  | [], s, t, _, _, _, h => h
  | x :: xs, s, t, hs, ht, hu, h => by
    have hx := hu x (List.mem_cons_self ..)
    exact stir_injS hs ht hx (ssum_injS (stir_lt hs hx) (stir_lt ht hx) (fun d hd => hu d (List.mem_cons_of_mem _ hd)) h)
theorem ssum_set : ∀ {xs : List Nat} {s y i : Nat} (hi : i < xs.length), s < 65536 → (∀ d ∈ xs, d < 256) → y < 256 → ssum s (xs.set i y) = ssum s xs → y = xs[i]
  | x :: xs, s, y, 0, _, hs, hu, hy, h => by
    have hx := hu x (List.mem_cons_self ..)
    have h2 : stir s y = stir s x := ssum_injS (stir_lt hs hy) (stir_lt hs hx) (fun d hd => hu d (List.mem_cons_of_mem _ hd)) h
    exact stir_injC hs hy hx h2
  | x :: xs, s, y, i + 1, hi, hs, hu, hy, h => by
    have hx := hu x (List.mem_cons_self ..)
    have := ssum_set (xs := xs) (i := i) (by simpa using hi) (stir_lt hs hx) (fun d hd => hu d (List.mem_cons_of_mem _ hd)) hy h
    simpa using this
theorem set_u8 {xs : List Nat} (hu : ∀ d ∈ xs, d < 256) (i : Nat) {y : Nat} (hy : y < 256) : ∀ d ∈ xs.set i y, d < 256 := fun d hd => by
  rcases List.mem_or_eq_of_mem_set hd with e | e
  · exact hu d e
  · omega
theorem num_inj {a b : List Nat} (hl : a.length = b.length) (ha : ∀ d ∈ a, d < 256) (hb : ∀ d ∈ b, d < 256) (h : num a = num b) : a = b := by
  rw [← big_num _ a rfl ha, ← big_num _ b rfl hb, hl, h]
theorem one_byte {f : List Nat} (hu : ∀ d ∈ f, d < 256) (h9 : 9 ≤ f.length) (hf : frE f = 0) {i y : Nat} (hi : i < f.length) (hy : y < 256) (hne : y ≠ f[i]) : frE (f.set i y) ≠ 0 := by
  intro hc
  have huc := set_u8 hu i hy
  have hlc : (f.set i y).length = f.length := List.length_set ..
  obtain ⟨-, kf, k6, -, -, sf, zf, bf⟩ := frE_ok (by omega) hf
  obtain ⟨-, kc, k6c, -, -, sc, zc, bc⟩ := frE_ok (by rw [hlc]; omega) hc
  have hat : (f.set i y)[i]'(by rw [hlc]; exact hi) = y := List.getElem_set_self ..
  rw [hlc] at zc
  have same : ∀ a k : Nat, a ≤ i → i < a + k → num (((f.set i y).drop a).take k) = num ((f.drop a).take k) → False := fun a k h1 h2 h3 => by
    have e := num_inj (by simp) (take_u8 (drop_u8 huc a) k) (take_u8 (drop_u8 hu a) k) h3
    have e1 := congrArg (fun l => l[i - a]?) e
    simp only [List.getElem?_take, List.getElem?_drop, show a + (i - a) = i by omega, show i - a < k by omega, if_true] at e1
    rw [List.getElem?_eq_getElem hi, List.getElem?_eq_getElem (by rw [hlc]; exact hi), hat] at e1
    exact hne (Option.some.inj e1)
  by_cases h4 : i < 4
  · have e1 := bc i (by rw [hlc]; exact hi) h4
    rw [hat] at e1
    have e2 := bf i hi h4
    exact hne (e1.trans e2.symm)
  by_cases h6 : i < 6
  · exact same 4 2 (by omega) (by omega) (zc.trans zf.symm)
  by_cases h7 : i = 6
  · subst h7
    have e0 : (f.set 6 y).drop 9 = f.drop 9 := List.drop_set_of_lt (by decide)
    have e1 : (f.set 6 y).drop 7 = f.drop 7 := List.drop_set_of_lt (by decide)
    rw [e0, e1] at sc
    rw [List.getElem?_eq_getElem hi] at k6
    rw [List.getElem?_eq_getElem (by rw [hlc]; exact hi), hat] at k6c
    cases k6
    cases k6c
    have hx := hu _ (List.getElem_mem hi)
    have e2 : stir 65535 y = stir 65535 f[6] := ssum_injS (stir_lt (by decide) hy) (stir_lt (by decide) hx) (drop_u8 hu 9) (sc.trans sf.symm)
    exact hne (stir_injC (by decide) hy hx e2)
  have k6e : (f.set i y)[6]? = f[6]? := List.getElem?_set_ne (by omega)
  rw [k6e, k6] at k6c
  cases k6c
  by_cases h9i : i < 9
  · have e0 : (f.set i y).drop 9 = f.drop 9 := List.drop_set_of_lt (by omega)
    rw [e0] at sc
    exact same 7 2 (by omega) (by omega) (sc.symm.trans sf)
  · have e0 : (f.set i y).drop 9 = (f.drop 9).set (i - 9) y := by rw [List.drop_set, if_neg (by omega)]
    have e1 : ((f.set i y).drop 7).take 2 = (f.drop 7).take 2 := by
      apply List.ext_getElem?
      intro j
      simp only [List.getElem?_take, List.getElem?_drop]
      split
      · exact List.getElem?_set_ne (by omega)
      · rfl
    rw [e0, e1, ← sf] at sc
    have hl9 : i - 9 < (f.drop 9).length := by rw [List.length_drop]; omega
    have e2 : y = (f.drop 9)[i - 9] := ssum_set hl9 (stir_lt (by decide) (by
      obtain ⟨h1, h2⟩ := List.getElem?_eq_some_iff.1 k6
      rw [← h2]; exact hu _ (List.getElem_mem h1))) (drop_u8 hu 9) hy sc
    rw [List.getElem_drop] at e2
    apply hne
    rw [e2]
    congr 1
    omega
end Go.Proofs.Ytanboekdfdafmaa.Pv
