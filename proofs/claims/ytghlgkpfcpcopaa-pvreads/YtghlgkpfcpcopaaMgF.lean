/- The document's reading, in plain words: it is the program's. Whole structs in memory: loaded, stored, boxed. Appends in regions that draw; parts of slices of bytes. -/
import Derived.Test.YtghlgkpfcpcopaaPxA
import Derived.Test.YtghlgkpfcpcopaaGeA
import Derived.Deep.MidRow
import Derived.Laws.CopyOwn
import Derived.Laws.OwnMore
namespace Go.Proofs.Ytghlgkpfcpcopaa.Pv
open Go.Proofs.Ytghlgkpfcpcopaa.PM
set_option linter.unusedVariables false

/-- attributes that hold one number of four bytes -/
def four (k : Nat) : Bool := decide (k = 3 ∨ k = 4 ∨ k = 5 ∨ k = 7)
theorem four_iff {k : Nat} : four k = true ↔ k = 3 ∨ k = 4 ∨ k = 5 ∨ k = 7 := by simp [four]
/-- the document's value of an attribute -/
def setD (t : Rt) (kind : Nat) (v : List Nat) : Option Rt := if four kind = true ∧ v.length ≠ 4 then none else setA t kind v
theorem setD_of {t t2 : Rt} {k : Nat} {v : List Nat} (h : setD t k v = some t2) : setA t k v = some t2 := by
  unfold setD at h
  split at h
  · cases h
  · exact h
theorem setA_kind {t t2 : Rt} {k : Nat} {v : List Nat} (h : setA t k v = some t2) : 1 ≤ k ∧ k ≤ 8 := by
  unfold setA at h
  repeat (first | (split at h; · omega) | (cases h))
/-- the document's attributes: what they tell, and the bytes of those that are not passed over -/
def dattrs : Nat → Nat → Rt → List Nat → List Nat → Option (Rt × List Nat)
  | 0, last, t, kp, r => if r.length = 0 then some (t, kp) else none
  | n + 1, last, t, kp, r => if r.length = 0 then some (t, kp) else
    match rpiece (r.drop 1) with
    | none => none
    | some (v, r2) =>
      if num (r.take 1) ≤ last then none
      else if passed (num (r.take 1)) then dattrs n (num (r.take 1)) t kp r2
      else match setD t (num (r.take 1)) v with
        | none => none
        | some t2 => dattrs n (num (r.take 1)) t2 (kp ++ r.take (3 + v.length)) r2
theorem dattrs_more : ∀ (n k last : Nat) (t : Rt) (kp r : List Nat), r.length ≤ n → dattrs (n + k) last t kp r = dattrs n last t kp r
  | 0, k, last, t, kp, r, h => by
    have h0 : r.length = 0 := by omega
    cases k with
    | zero => rfl
    | succ k => rw [Nat.zero_add]; unfold dattrs; rw [if_pos h0, if_pos h0]
  | n + 1, k, last, t, kp, r, h => by
    rw [show n + 1 + k = (n + k) + 1 by omega]
    unfold dattrs
    by_cases h0 : r.length = 0
    · rw [if_pos h0, if_pos h0]
    · rw [if_neg h0, if_neg h0]
      cases e2 : rpiece (r.drop 1) with
      | none => rfl
      | some q2 =>
        obtain ⟨v, r2⟩ := q2
        dsimp only
        obtain ⟨-, -, h3, -⟩ := rpiece_len e2
        rw [List.length_drop] at h3
        rw [dattrs_more n k _ _ _ r2 (by omega)]
        cases setD t (num (r.take 1)) v with
        | none => rfl
        | some t2 => dsimp only; rw [dattrs_more n k _ _ _ r2 (by omega)]
def attrsD (last : Nat) (t : Rt) (kp r : List Nat) : Option (Rt × List Nat) := dattrs r.length last t kp r
theorem attrsD_nil (last : Nat) (t : Rt) (kp : List Nat) : attrsD last t kp [] = some (t, kp) := rfl
theorem attrsD_cons {r : List Nat} (last : Nat) (t : Rt) (kp : List Nat) (h0 : 0 < r.length) : attrsD last t kp r = match rpiece (r.drop 1) with
    | none => none
    | some (v, r2) =>
      if num (r.take 1) ≤ last then none
      else if passed (num (r.take 1)) then attrsD (num (r.take 1)) t kp r2
      else match setD t (num (r.take 1)) v with
        | none => none
        | some t2 => attrsD (num (r.take 1)) t2 (kp ++ r.take (3 + v.length)) r2 := by
  unfold attrsD
  obtain ⟨n, hn⟩ : ∃ n, r.length = n + 1 := ⟨r.length - 1, by omega⟩
  rw [hn, dattrs, if_neg (by omega)]
  cases e2 : rpiece (r.drop 1) with
  | none => rfl
  | some q2 =>
    obtain ⟨v, r2⟩ := q2
    dsimp only
    obtain ⟨-, -, h3, -⟩ := rpiece_len e2
    rw [List.length_drop] at h3
    rw [show n = r2.length + (n - r2.length) by omega, dattrs_more _ _ _ _ _ _ (Nat.le_refl _)]
    cases setD t (num (r.take 1)) v with
    | none => rfl
    | some t2 => dsimp only; rw [dattrs_more _ _ _ _ _ _ (Nat.le_refl _)]
/-- the same by the program's words -/
theorem rattrs_succ (n last : Nat) (t : Rt) (kn : Nat) (r : List Nat) (h0 : ¬ r.length = 0) : rattrs (n + 1) last t kn r = match rpiece (r.drop 1) with
    | none => none
    | some (v, r2) =>
      if num (r.take 1) ≤ last then none
      else if passed (num (r.take 1)) then rattrs n (num (r.take 1)) t kn r2
      else match setA t (num (r.take 1)) v with
        | none => none
        | some t2 => rattrs n (num (r.take 1)) t2 r2.length r2 := by
  rw [rattrs, if_neg h0, rd_yes (by omega)]
  rfl
/-- behind the eighth kind nothing is told -/
theorem late : ∀ (n last : Nat) (t : Rt) (kn : Nat) (kp r : List Nat), 8 ≤ last → (∀ q, rattrs n last t kn r = some q → q = (t, kn) ∧ dattrs n last t kp r = some (t, kp)) ∧ (∀ q, dattrs n last t kp r = some q → q = (t, kp) ∧ rattrs n last t kn r = some (t, kn))
  | 0, last, t, kn, kp, r, h => by
    unfold rattrs dattrs
    by_cases h0 : r.length = 0
    · rw [if_pos h0, if_pos h0]
      exact ⟨fun q hq => by cases hq; exact ⟨rfl, rfl⟩, fun q hq => by cases hq; exact ⟨rfl, rfl⟩⟩
    · rw [if_neg h0, if_neg h0]
      exact ⟨fun q hq => (by cases hq), fun q hq => (by cases hq)⟩
  | n + 1, last, t, kn, kp, r, h => by
    by_cases h0 : r.length = 0
    · unfold rattrs dattrs
      rw [if_pos h0, if_pos h0]
      exact ⟨fun q hq => by cases hq; exact ⟨rfl, rfl⟩, fun q hq => by cases hq; exact ⟨rfl, rfl⟩⟩
    · rw [rattrs_succ _ _ _ _ _ h0, dattrs, if_neg h0]
      cases e2 : rpiece (r.drop 1) with
      | none => exact ⟨fun q hq => (by cases hq), fun q hq => (by cases hq)⟩
      | some q2 =>
        obtain ⟨v, r2⟩ := q2
        dsimp only
        by_cases hl : num (r.take 1) ≤ last
        · rw [if_pos hl, if_pos hl]
          exact ⟨fun q hq => (by cases hq), fun q hq => (by cases hq)⟩
        · rw [if_neg hl, if_neg hl]
          by_cases hp : passed (num (r.take 1)) = true
          · rw [if_pos hp, if_pos hp]
            exact late n _ t kn kp r2 (by omega)
          · rw [if_neg hp, if_neg hp]
            have hA : setA t (num (r.take 1)) v = none := by
              cases e : setA t (num (r.take 1)) v with
              | none => rfl
              | some t2 => have := setA_kind e; omega
            have hD : setD t (num (r.take 1)) v = none := by
              cases e : setD t (num (r.take 1)) v with
              | none => rfl
              | some t2 => rw [setD_of e] at hA; cases hA
            rw [hA, hD]
            exact ⟨fun q hq => (by cases hq), fun q hq => (by cases hq)⟩
theorem passed_big {k : Nat} (h : passed k = true) : 8 ≤ k := by
  unfold passed at h
  rw [wi_iff] at h
  omega
theorem take_piece {r v r2 : List Nat} (h0 : ¬ r.length = 0) (h : rpiece (r.drop 1) = some (v, r2)) : r = r.take (3 + v.length) ++ r2 ∧ (r.take (3 + v.length)).length = 3 + v.length := by
  obtain ⟨h2, h3, h4, h5⟩ := rpiece_len h
  rw [List.length_drop] at h4 h2
  have e : r.drop (3 + v.length) = r2 := by
    rw [show 3 + v.length = 1 + (2 + v.length) by omega, ← List.drop_drop, h5]
    apply List.drop_left'
    rw [List.length_append, List.length_take, List.length_drop]
    omega
  refine ⟨?_, by rw [List.length_take]; omega⟩
  rw [← e, List.take_append_drop]
/-- what the document reads the program reads -/
theorem one_way : ∀ (n last : Nat) (t t' : Rt) (kn : Nat) (kp kp' r : List Nat), dattrs n last t kp r = some (t', kp') → ∃ kn' front back, rattrs n last t kn r = some (t', kn') ∧ r = front ++ back ∧ kp' = kp ++ front ∧ ((front = [] ∧ kn' = kn) ∨ kn' = back.length)
  | 0, last, t, t', kn, kp, kp', r, h => by
    unfold dattrs at h
    by_cases h0 : r.length = 0
    · rw [if_pos h0] at h
      cases h
      refine ⟨kn, [], r, ?_, rfl, by simp, .inl ⟨rfl, rfl⟩⟩
      unfold rattrs
      rw [if_pos h0]
    · rw [if_neg h0] at h; cases h
  | n + 1, last, t, t', kn, kp, kp', r, h => by
    by_cases h0 : r.length = 0
    · unfold dattrs at h
      rw [if_pos h0] at h
      cases h
      refine ⟨kn, [], r, ?_, rfl, by simp, .inl ⟨rfl, rfl⟩⟩
      unfold rattrs
      rw [if_pos h0]
    · rw [dattrs, if_neg h0] at h
      rw [rattrs_succ _ _ _ _ _ h0]
      cases e2 : rpiece (r.drop 1) with
      | none => rw [e2] at h; cases h
      | some q2 =>
        obtain ⟨v, r2⟩ := q2
        rw [e2] at h
        dsimp only at h ⊢
        by_cases hl : num (r.take 1) ≤ last
        · rw [if_pos hl] at h; cases h
        · rw [if_neg hl] at h ⊢
          by_cases hp : passed (num (r.take 1)) = true
          · rw [if_pos hp] at h ⊢
            obtain ⟨e, e3⟩ := (late n _ t kn kp r2 (passed_big hp)).2 _ h
            cases e
            exact ⟨kn, [], r, e3, rfl, by simp, .inl ⟨rfl, rfl⟩⟩
          · rw [if_neg hp] at h ⊢
            cases e : setD t (num (r.take 1)) v with
            | none => rw [e] at h; cases h
            | some t2 =>
              rw [e] at h
              dsimp only at h
              rw [setD_of e]
              dsimp only
              obtain ⟨kn', front, back, h1, h2, h3, h4⟩ := one_way n _ t2 t' r2.length _ kp' r2 h
              obtain ⟨e5, -⟩ := take_piece h0 e2
              refine ⟨kn', r.take (3 + v.length) ++ front, back, h1, ?_, ?_, .inr ?_⟩
              · rw [List.append_assoc, ← h2]; exact e5
              · rw [h3, List.append_assoc]
              · rcases h4 with ⟨h4, h5⟩ | h4
                · rw [h5, h2, h4, List.nil_append]
                · exact h4
/-- attributes whose numbers have four bytes -/
inductive Fr : List Nat → Prop
  | nil : Fr []
  | cons (k : Nat) (v X : List Nat) : k < 256 → v.length < 65536 → (four k = true → v.length = 4) → Fr X → Fr (attr k v ++ X)
theorem attr_inj {k k' : Nat} {v v' X X' : List Nat} (hk : k < 256) (hk' : k' < 256) (hv : v.length < 65536) (hv' : v'.length < 65536) (h : attr k v ++ X = attr k' v' ++ X') : k = k' ∧ v = v' ∧ X = X' := by
  have e0 : ∀ (k : Nat) (v X : List Nat), attr k v ++ X = big 1 k ++ (piece v ++ X) := fun k v X => by unfold attr; rw [List.append_assoc]
  rw [e0, e0] at h
  have h1 := congrArg (fun l => num (l.take 1)) h
  have h2 := congrArg (fun l => rpiece (l.drop 1)) h
  simp only [List.take_left' (big_len 1 _), List.drop_left' (big_len 1 _)] at h1 h2
  rw [num_big 1 _ (by simpa using hk), num_big 1 _ (by simpa using hk')] at h1
  rw [rpiece_piece hv, rpiece_piece hv'] at h2
  cases h2
  exact ⟨h1, rfl, rfl⟩
theorem Fr.tail {k : Nat} {v X : List Nat} (hk : k < 256) (hv : v.length < 65536) (h : Fr (attr k v ++ X)) : (four k = true → v.length = 4) ∧ Fr X := by
  generalize hL : attr k v ++ X = L at h
  cases h with
  | nil =>
    have := congrArg List.length hL
    unfold attr at this
    simp [big_len] at this
  | cons k' v' X' h1 h2 h3 h4 =>
    obtain ⟨rfl, rfl, rfl⟩ := attr_inj hk h1 hv h2 hL
    exact ⟨h3, h4⟩
theorem Fr.opt {k size : Nat} {there : Bool} {xs : List Int} {X : List Nat} (hk : k < 256) (hv : there = true → (wordsB size xs).length < 65536) (h4 : four k = true → size * xs.length = 4) (h : Fr X) : Fr (attrIf k size there xs ++ X) := by
  unfold attrIf
  cases there with
  | true => rw [if_pos rfl]; exact .cons k _ X hk (hv rfl) (fun e => by rw [wordsL]; exact h4 e) h
  | false => rw [if_neg (by decide), List.nil_append]; exact h
theorem fr_attrs {m : Ms} (hr : RR m.rt) : Fr (attrs m) := by
  obtain ⟨r1, r2, r3, r4, r5, r6, r7, r8, r9, r10⟩ := hr
  have len1 : ∀ (size : Nat) (x : Int), size ≤ 4 → (wordsB size [x]).length < 65536 := fun size x h => by rw [wordsL]; simp; omega
  unfold attrs
  simp only [List.append_assoc]
  have h8 : Fr (attrIf 8 4 (decide (0 < m.rt.clus.length)) m.rt.clus) := by
    have := Fr.opt (k := 8) (size := 4) (there := decide (0 < m.rt.clus.length)) (xs := m.rt.clus) (X := []) (by decide) (fun _ => by rw [wordsL]; omega) (fun e => by cases e) .nil
    simpa using this
  refine Fr.opt (by decide) (fun _ => len1 1 _ (by decide)) (fun e => by cases e) ?_
  refine Fr.opt (by decide) (fun _ => by rw [wordsL]; omega) (fun e => by cases e) ?_
  refine Fr.opt (by decide) (fun _ => len1 4 _ (by decide)) (fun e => by simp) ?_
  refine Fr.opt (by decide) (fun _ => len1 4 _ (by decide)) (fun e => by simp) ?_
  refine Fr.opt (by decide) (fun _ => len1 4 _ (by decide)) (fun e => by simp) ?_
  refine Fr.opt (by decide) (fun _ => by rw [wordsL]; omega) (fun e => by cases e) ?_
  exact Fr.opt (by decide) (fun _ => len1 4 _ (by decide)) (fun e => by simp) h8
theorem attr_of {r v r2 : List Nat} (h0 : ¬ r.length = 0) (hu : ∀ d ∈ r, d < 256) (h : rpiece (r.drop 1) = some (v, r2)) : r = attr (num (r.take 1)) v ++ r2 ∧ num (r.take 1) < 256 ∧ v.length < 65536 := by
  have h1 := rpiece_is (drop_u8 hu 1) h
  have e1 : big 1 (num (r.take 1)) = r.take 1 := big_num 1 _ (by rw [List.length_take]; omega) (take_u8 hu 1)
  obtain ⟨h2, h3, -, -⟩ := rpiece_len h
  refine ⟨?_, ?_, ?_⟩
  · unfold attr
    rw [e1, List.append_assoc, ← h1, List.take_append_drop]
  · exact num_lt hu 1 (by omega)
  · rw [h3]
    exact num_lt (drop_u8 hu 1) 2 h2
theorem kn_le : ∀ (n last : Nat) (t t' : Rt) (kn kn' : Nat) (r : List Nat), rattrs n last t kn r = some (t', kn') → kn' = kn ∨ kn' ≤ r.length
  | 0, last, t, t', kn, kn', r, h => by
    unfold rattrs at h
    split at h
    · cases h; exact .inl rfl
    · cases h
  | n + 1, last, t, t', kn, kn', r, h => by
    by_cases h0 : r.length = 0
    · unfold rattrs at h
      rw [if_pos h0] at h
      cases h
      exact .inl rfl
    · rw [rattrs_succ _ _ _ _ _ h0] at h
      cases e2 : rpiece (r.drop 1) with
      | none => rw [e2] at h; cases h
      | some q2 =>
        obtain ⟨v, r2⟩ := q2
        rw [e2] at h
        dsimp only at h
        obtain ⟨-, -, h3, -⟩ := rpiece_len e2
        rw [List.length_drop] at h3
        split at h
        · cases h
        · split at h
          · rcases kn_le n _ t t' kn kn' r2 h with e | e
            · exact .inl e
            · exact .inr (by omega)
          · split at h
            · cases h
            · rcases kn_le n _ _ t' _ kn' r2 h with e | e
              · exact .inr (by omega)
              · exact .inr (by omega)
/-- what the program reads the document reads, where numbers have four bytes -/
theorem other_way : ∀ (n last : Nat) (t t' : Rt) (kn kn' : Nat) (kp r : List Nat), (∀ d ∈ r, d < 256) → rattrs n last t kn r = some (t', kn') → (kn' ≤ r.length → Fr (r.take (r.length - kn'))) → r.length ≤ kn → ∃ kp', dattrs n last t kp r = some (t', kp')
  | 0, last, t, t', kn, kn', kp, r, hu, h, hF, hk => by
    unfold rattrs at h
    unfold dattrs
    split at h
    · rename_i h0; cases h; rw [if_pos h0]; exact ⟨kp, rfl⟩
    · cases h
  | n + 1, last, t, t', kn, kn', kp, r, hu, h, hF, hk => by
    by_cases h0 : r.length = 0
    · unfold rattrs at h
      unfold dattrs
      rw [if_pos h0] at h ⊢
      cases h
      exact ⟨kp, rfl⟩
    · rw [rattrs_succ _ _ _ _ _ h0] at h
      rw [dattrs, if_neg h0]
      cases e2 : rpiece (r.drop 1) with
      | none => rw [e2] at h; cases h
      | some q2 =>
        obtain ⟨v, r2⟩ := q2
        rw [e2] at h
        dsimp only at h ⊢
        by_cases hl : num (r.take 1) ≤ last
        · rw [if_pos hl] at h; cases h
        · rw [if_neg hl] at h ⊢
          by_cases hp : passed (num (r.take 1)) = true
          · rw [if_pos hp] at h ⊢
            obtain ⟨e, e3⟩ := (late n _ t kn kp r2 (passed_big hp)).1 _ h
            cases e
            exact ⟨kp, e3⟩
          · rw [if_neg hp] at h ⊢
            cases e : setA t (num (r.take 1)) v with
            | none => rw [e] at h; cases h
            | some t2 =>
              rw [e] at h
              dsimp only at h
              obtain ⟨a1, a2, a3⟩ := attr_of h0 hu e2
              obtain ⟨-, -, h3, -⟩ := rpiece_len e2
              rw [List.length_drop] at h3
              have hkn : kn' ≤ r2.length := by
                rcases kn_le n _ _ t' _ kn' r2 h with e | e <;> omega
              have hal : (attr (num (r.take 1)) v).length = 3 + v.length := by unfold attr piece; simp [big_len]; omega
              have e5 : r.take (r.length - kn') = attr (num (r.take 1)) v ++ r2.take (r2.length - kn') := by
                have e6 : r.length = 3 + v.length + r2.length := by omega
                rw [show r.length - kn' = 3 + v.length + (r2.length - kn') by omega]
                conv => lhs; rw [a1]
                rw [List.take_append, hal, List.take_of_length_le (by rw [hal]; omega), show 3 + v.length + (r2.length - kn') - (3 + v.length) = r2.length - kn' by omega]
              have hF1 := hF (by omega)
              rw [e5] at hF1
              obtain ⟨f1, f2⟩ := hF1.tail a2 a3
              have eD : setD t (num (r.take 1)) v = some t2 := by
                unfold setD
                rw [if_neg (fun c => c.2 (f1 c.1)), e]
              rw [eD]
              dsimp only
              have hu2 : ∀ d ∈ r2, d < 256 := (piece_in e2 (drop_u8 hu 1)).2
              exact other_way n _ t2 t' _ kn' _ r2 hu2 h (fun _ => f2) (Nat.le_refl _)
/-- the document's guess -/
def gupd (b : List Nat) : Option (Ms × List Nat) :=
  match rpiece b with
  | none => none
  | some (lost, r1) => match rpiece r1 with
    | none => none
    | some (ats, hv) => match pfxsR lost with
      | none => none
      | some ls => match attrsD 0 rtZ [] ats with
        | none => none
        | some (t, kp) => match pfxsR hv with
          | none => none
          | some hs => some (⟨2, 0, 0, 0, 0, ls, hs, t⟩, updB lost kp hv)
def guess (kind : Nat) (b : List Nat) : Option (Ms × List Nat) := if kind = 2 then gupd b else readB kind b
def ddec (b : List Nat) : Ms × Int :=
  if frE b ≠ 0 then (ms0, frE b)
  else match guess (b[6]?.getD 0) (b.drop 9) with
    | none => (ms0, 4)
    | some (m, kept) => if encE m = 0 ∧ (encB m).drop 9 = kept then (m, 0) else (ms0, 4)
theorem guess_read {k : Nat} {b kept : List Nat} {m : Ms} (h : guess k b = some (m, kept)) : readB k b = some (m, kept) := by
  unfold guess at h
  split at h
  · rename_i hk
    subst hk
    unfold readB
    rw [if_neg (by decide), if_pos rfl]
    unfold gupd at h
    split at h
    · cases h
    · rename_i lost r1 e1
      split at h
      · cases h
      · rename_i ats hv e2
        split at h
        · cases h
        · rename_i ls e3
          split at h
          · cases h
          · rename_i t kp e4
            split at h
            · cases h
            · rename_i hs e5
              cases h
              obtain ⟨kn', front, back, h1, h2, h3, h4⟩ := one_way _ _ _ _ ats.length _ _ _ e4
              rw [rupd_6 e1 e2 e3 h1 e5]
              have e : ats.take (ats.length - kn') = kp := by
                rw [List.nil_append] at h3
                rw [h3]
                rcases h4 with ⟨h5, h6⟩ | h6
                · rw [h6, Nat.sub_self, h5]; rfl
                · rw [h6, h2, List.length_append, Nat.add_sub_cancel, List.take_left' rfl]
              rw [e]
  · exact h
theorem readB_kind {k : Nat} {b body : List Nat} {m : Ms} (h : readB k b = some (m, body)) : m.kind = (k : Int) := by
  unfold readB at h
  split at h
  · split at h
    · cases h; rename_i e _; rw [e]; rfl
    · cases h
  · split at h
    · rename_i hk
      unfold rupd at h
      split at h
      · cases h
      · split at h
        · cases h
        · split at h
          · cases h
          · split at h
            · cases h
            · split at h
              · cases h
              · cases h; rw [hk]; rfl
    · split at h
      · split at h
        · cases h; rename_i e _; rw [e]; rfl
        · cases h
      · cases h; rfl
theorem enc_parts {m : Ms} (he : encE m = 0) : CK m ∧ encB m = frame m.kind.toNat (Pv.body m) := by
  have hc : chk m = 0 := by
    unfold encE at he
    split at he
    · assumption
    · exact he
  exact ⟨ck_of hc, by unfold encB; rw [if_pos he]⟩
theorem piece_inj {a b a' b' : List Nat} (h1 : a.length < 65536) (h2 : a'.length < 65536) (h : piece a ++ b = piece a' ++ b') : a = a' ∧ b = b' := by
  have := congrArg rpiece h
  rw [rpiece_piece h1, rpiece_piece h2] at this
  cases this
  exact ⟨rfl, rfl⟩
theorem rpiece_short {r a b : List Nat} (hu : ∀ d ∈ r, d < 256) (h : rpiece r = some (a, b)) : a.length < 65536 := by
  obtain ⟨h2, h3, -, -⟩ := rpiece_len h
  rw [h3]
  exact num_lt hu 2 h2
/-- the document's answer is the program's -/
theorem ddec_eq {xs : List Nat} (hu : ∀ d ∈ xs, d < 256) : ddec xs = dec xs := by
  unfold ddec dec
  by_cases hf : frE xs ≠ 0
  · rw [if_pos hf, if_pos hf]
  · rw [if_neg hf, if_neg hf]
    have hf0 : frE xs = 0 := by simpa using hf
    have h9 : ¬ xs.length < 9 := by
      intro h9
      unfold frE at hf0
      rw [if_pos h9] at hf0
      cases hf0
    obtain ⟨-, kd, hk, hk1, hk4, -⟩ := frE_ok h9 hf0
    rw [hk, Option.getD_some]
    cases hg : guess kd (xs.drop 9) with
    | some q =>
      obtain ⟨m, kept⟩ := q
      have hr := guess_read hg
      rw [hr]
      dsimp only
      have hkd := readB_kind hr
      by_cases he : encE m = 0
      · obtain ⟨-, hB⟩ := enc_parts he
        have hd := (frame_drops m.kind.toNat (Pv.body m)).2.2.2.2
        have hkk : m.kind.toNat = kd := by omega
        by_cases hb : Pv.body m = kept
        · rw [if_pos ⟨he, by rw [hB, hd]; exact hb⟩, if_pos ⟨he, by rw [hB, hkk, hb]⟩]
        · rw [if_neg (fun c => hb (by have := c.2; rw [hB, hd] at this; exact this)), if_neg (fun c => hb (by
            have h5 := congrArg (fun l => l.drop 9) c.2
            simp only [hB] at h5
            rw [hd, (frame_drops kd kept).2.2.2.2] at h5
            exact h5))]
      · rw [if_neg (fun c => he c.1), if_neg (fun c => he c.1)]
    | none =>
      dsimp only
      cases hr : readB kd (xs.drop 9) with
      | none => rfl
      | some q =>
        obtain ⟨m, body⟩ := q
        dsimp only
        rw [if_neg]
        rintro ⟨he, hb⟩
        obtain ⟨hck, hB⟩ := enc_parts he
        have hkd := readB_kind hr
        have hkk : m.kind.toNat = kd := by omega
        have hbody : Pv.body m = body := by
          have h5 := congrArg (fun l => l.drop 9) hb
          simp only [hB] at h5
          rw [(frame_drops m.kind.toNat (Pv.body m)).2.2.2.2, (frame_drops kd body).2.2.2.2] at h5
          exact h5
        unfold guess at hg
        by_cases h2 : kd = 2
        · subst h2
          rw [if_pos rfl] at hg
          unfold readB at hr
          rw [if_neg (by decide), if_pos rfl] at hr
          have hu9 := drop_u8 hu 9
          unfold rupd at hr
          unfold gupd at hg
          cases e1 : rpiece (xs.drop 9) with
          | none => rw [e1] at hr; cases hr
          | some q1 =>
            obtain ⟨lost, r1⟩ := q1
            rw [e1] at hr hg
            dsimp only at hr hg
            have hu1 := (piece_in e1 hu9).2
            cases e2 : rpiece r1 with
            | none => rw [e2] at hr; cases hr
            | some q2 =>
              obtain ⟨ats, hv⟩ := q2
              rw [e2] at hr hg
              dsimp only at hr hg
              have hua := (piece_in e2 hu1).1
              cases e3 : pfxsR lost with
              | none => rw [e3] at hr; cases hr
              | some ls =>
                rw [e3] at hr hg
                dsimp only at hr hg
                cases e4 : attrsR 0 rtZ ats.length ats with
                | none => rw [e4] at hr; cases hr
                | some q4 =>
                  obtain ⟨t, kn⟩ := q4
                  rw [e4] at hr
                  dsimp only at hr
                  cases e5 : pfxsR hv with
                  | none => rw [e5] at hr; cases hr
                  | some hs =>
                    rw [e5] at hr
                    dsimp only at hr
                    cases hr
                    have hm2 : (2 : Int) = 2 := rfl
                    have hrr : RR t := by
                      have h6 := hck.r
                      unfold inR at h6
                      rw [if_neg (by show ¬ (2 : Int) = 1; decide), if_pos (show (2 : Int) = 2 from rfl)] at h6
                      exact rr_of h6
                    have hfa := fr_attrs (m := ⟨2, 0, 0, 0, 0, ls, hs, t⟩) hrr
                    have hal := attrs_len (m := ⟨2, 0, 0, 0, 0, ls, hs, t⟩) hrr
                    have hsz : (pfxsB ls).length < 65536 := by
                      have h7 : (Pv.body ⟨2, 0, 0, 0, 0, ls, hs, t⟩).length ≤ 1015 := by
                        have h8 := he
                        unfold encE at h8
                        rw [if_pos (ck_to hck)] at h8
                        split at h8
                        · cases h8
                        · split at h8
                          · cases h8
                          · omega
                      unfold Pv.body at h7
                      rw [if_neg (by show ¬ (2 : Int) = 1; decide), if_pos (show (2 : Int) = 2 from rfl)] at h7
                      unfold updB piece at h7
                      simp only [List.length_append, big_len] at h7
                      omega
                    unfold Pv.body at hbody
                    rw [if_neg (by show ¬ (2 : Int) = 1; decide), if_pos (show (2 : Int) = 2 from rfl)] at hbody
                    unfold updB at hbody
                    rw [List.append_assoc, List.append_assoc] at hbody
                    obtain ⟨-, b2⟩ := piece_inj hsz (rpiece_short hu9 e1) hbody
                    have hla : (ats.take (ats.length - kn)).length < 65536 := by
                      have := rpiece_short hu1 e2
                      rw [List.length_take]; omega
                    obtain ⟨b3, -⟩ := piece_inj (by omega) hla b2
                    obtain ⟨kp, e6⟩ := other_way _ _ _ _ _ _ [] _ hua e4 (fun _ => by rw [← b3]; exact hfa) (Nat.le_refl _)
                    have e7 : attrsD 0 rtZ [] ats = some (t, kp) := e6
                    rw [e7, e5] at hg
                    cases hg
        · rw [if_neg h2, hr] at hg
          cases hg
end Go.Proofs.Ytghlgkpfcpcopaa.Pv
namespace Go.Proofs.Ytghlgkpfcpcopaa.Ge
open Go.ChangeShapes Go.WideShapes Go.ChangeAt Go.RowKit Go.Joins Go.Deep
set_option linter.unusedVariables false

/-- a kind of struct -/
structure Sk where
  t : TypeId
  k : Nat
  d : TypeDesc
  hu : Try.prog.underlying t = some d
  hd : d.isRow = true
  hi : (Try.prog.info? t).map (·.size) = some k
/-- a block that holds one -/
def SB (T : Sk) (b : Nat) (cs : List Value) (w : World) : Prop := w.heap[b]? = some (Obj.cells cs.toArray T.t)
/-- nothing but one block has turned -/
structure Ko (w : World) (b : Nat) (w' : World) : Prop where
  str : Below 0 w w'
  size : w'.heap.size = w.heap.size
  block : ∀ g, g ≠ b → w'.heap[g]? = w.heap[g]?
theorem Ko.refl (w : World) (b : Nat) : Ko w b w := ⟨Below.refl _ _, rfl, fun _ _ => rfl⟩
theorem Ko.trans {w w1 w2 : World} {b : Nat} (h : Ko w b w1) (k : Ko w1 b w2) : Ko w b w2 := ⟨h.str.trans k.str, k.size.trans h.size, fun g hg => (k.block g hg).trans (h.block g hg)⟩
theorem Ko.below {w w1 : World} {b N : Nat} (h : Ko w b w1) (hN : N ≤ b) : Below N w w1 := ⟨h.str.os, h.str.tape, h.str.output, h.str.size, fun k hk => h.block k (by omega)⟩
theorem SB.lt {T : Sk} {b : Nat} {cs : List Value} {w : World} (h : SB T b cs w) : b < w.heap.size := (Array.getElem?_eq_some_iff.1 h).1
theorem SB.cell {T : Sk} {b : Nat} {cs : List Value} {w : World} (h : SB T b cs w) (i : Nat) : w.cell? ⟨b, i, none⟩ = cs[i]? := by unfold World.cell?; rw [h]; simp
theorem SB.fro {T : Sk} {b : Nat} {cs : List Value} {w : World} (h : SB T b cs w) (i : Nat) : w.frozen? ⟨b, i, none⟩ = false := by unfold World.frozen?; rw [h]; simp
theorem SB.blk {T : Sk} {b : Nat} {cs : List Value} {w w' : World} (h : SB T b cs w) (hb : w'.heap[b]? = w.heap[b]?) : SB T b cs w' := hb.trans h
theorem SB.set {T : Sk} {b : Nat} {cs cs' : List Value} {w : World} (h : SB T b cs w) (i : Nat) (v : Value) (he : cs.set i v = cs') : SB T b cs' (w.setCell ⟨b, i, none⟩ v) := by
  unfold SB
  rw [heap_setCell_same w b i _ _ v h, ← he]
  simp
theorem Ko.set (w : World) (b i : Nat) (v : Value) : Ko w b (w.setCell ⟨b, i, none⟩ v) := ⟨(Below.refl _ w).setCell (p := ⟨b, i, none⟩) (Nat.zero_le _) v, by simp, fun g hg => Below.heap_setCell w ⟨b, i, none⟩ _ g hg⟩
theorem SB.made (T : Sk) {w W : World} {cs : List Value} (h : w.alloc (Obj.cells cs.toArray T.t) = W) : SB T w.heap.size cs W ∧ Below w.heap.size w W := by
  subst h
  exact ⟨World.alloc_heap_new w _, (Below.refl _ _).alloc (Nat.le_refl _) _⟩
theorem heap_setRow (w : World) (g : Nat) (old cs : Array Value) (t : TypeId) (h : w.heap[g]? = some (Obj.cells old t)) : (w.setRow g cs).heap[g]? = some (Obj.cells cs t) := by
  obtain ⟨hl, e⟩ := Array.getElem?_eq_some_iff.1 h
  simp [World.setRow, hl, Array.getElem_modify, e]
theorem Ko.row (w : World) (g : Nat) (cs : Array Value) : Ko w g (w.setRow g cs) :=
  ⟨below_setRow (Below.refl _ w) (Nat.zero_le _) cs, by simp [World.setRow], fun k hk => setRow_other w g k cs hk⟩
theorem sload_run {o : Oper} {ρ : Operand → Value} {W : World} (T : Sk) (x : Operand) (ho : o.op = .load T.t x) {b : Nat} {cs : List Value} (hx : ρ x = .pointer (some ⟨b, 0, none⟩)) (h : SB T b cs W) (hl : cs.length = T.k) : (execOp ρ o).run Try.prog W = .ok (.value (.agg cs.toArray)) W := by
  unfold execOp
  have hr : W.rangeAt b 0 cs := fun j v hv => by rw [Nat.zero_add, h.cell]; exact hv
  simp only [ho, hx, Instr.loadAt, Instr.sureAddr, Sem.run_bind, Sem.run_pure, Result.andThen_ok, run_loadVar_mid W b 0 T.t cs T.d hr T.hu T.hd (by rw [T.hi, hl])]
/-- a struct is loaded -/
theorem list_sload {ops : Array Oper} {rest : List Oper} {o : Oper} {ac : Act} {Q : Exit → Act → World → Prop} {W : World} (T : Sk) (hgd : o.guard = none) (x : Operand) (ho : o.op = .load T.t x) {b : Nat} {cs : List Value} (hx : ac.eval x = .pointer (some ⟨b, 0, none⟩)) (h : SB T b cs W) (hl : cs.length = T.k)
    (k : wpList Try.prog ops Q rest (ac.put o.dst (.agg cs.toArray)) W) : wpList Try.prog ops Q (o :: rest) ac W := by
  refine wpList_plain hgd fun K hK => ?_
  unfold Oper.wp
  rw [sload_run T x ho hx h hl]
  exact hK _ _ k
theorem sstore_run {o : Oper} {ρ : Operand → Value} {W : World} (T : Sk) (x y : Operand) (ho : o.op = .store T.t x y) {b : Nat} {cs cs' : List Value} (hx : ρ x = .pointer (some ⟨b, 0, none⟩)) (hy : ρ y = .agg cs'.toArray) (h : SB T b cs W) (hl : cs.length = T.k) (hl' : cs'.length = T.k) (h1 : cs'.all (·.oneCell') = true) : (execOp ρ o).run Try.prog W = .ok .skip (W.setRow b cs'.toArray) := by
  unfold execOp
  have ha : cs'.toArray.all (·.oneCell') = true := by simpa using h1
  simp only [ho, hx, hy, Instr.storeAt, Instr.sureAddr, Sem.run_bind, Sem.run_pure, Result.andThen_ok, run_storeVar_row W b T.t T.t cs.toArray cs'.toArray h (by rw [T.hi]; simp [hl']) (by simp [hl, hl']) ha]
/-- a struct is stored -/
theorem list_sstore {ops : Array Oper} {rest : List Oper} {o : Oper} {ac : Act} {Q : Exit → Act → World → Prop} {W : World} (T : Sk) (hgd : o.guard = none) (x y : Operand) (ho : o.op = .store T.t x y) {b : Nat} {cs cs' : List Value} (hx : ac.eval x = .pointer (some ⟨b, 0, none⟩)) (hy : ac.eval y = .agg cs'.toArray) (h : SB T b cs W) (hl : cs.length = T.k) (hl' : cs'.length = T.k) (h1 : cs'.all (·.oneCell') = true)
    (k : ∀ W', Hid (SB T b cs' W') → Hid (Ko W b W') → wpList Try.prog ops Q rest (ac.put o.dst undef) W') : wpList Try.prog ops Q (o :: rest) ac W := by
  refine wpList_plain hgd fun K hK => ?_
  unfold Oper.wp
  rw [sstore_run T x y ho hx hy h hl hl' h1]
  exact hK _ _ (k _ (heap_setRow W b _ _ _ h) (Ko.row W b _))
theorem sbox_run {o : Oper} {ρ : Operand → Value} {W : World} (T : Sk) (x : Operand) (ho : o.op = .box T.t x) {cs : List Value} (hx : ρ x = .agg cs.toArray) : (execOp ρ o).run Try.prog W = .ok (.value (.pointer (some ⟨W.heap.size, 0, none⟩))) (W.alloc (Obj.cells cs.toArray T.t)) := by
  unfold execOp
  rw [ho]
  simp [go_sem, hx]
/-- a struct is boxed -/
theorem list_sbox {ops : Array Oper} {rest : List Oper} {o : Oper} {ac : Act} {Q : Exit → Act → World → Prop} {W : World} (T : Sk) (hgd : o.guard = none) (x : Operand) (ho : o.op = .box T.t x) {cs : List Value} (hx : ac.eval x = .agg cs.toArray)
    (k : ∀ W', Hid (SB T W.heap.size cs W') → Hid (Below W.heap.size W W') → W'.heap.size = W.heap.size + 1 → wpList Try.prog ops Q rest (ac.put o.dst (.pointer (some ⟨W.heap.size, 0, none⟩))) W') : wpList Try.prog ops Q (o :: rest) ac W := by
  refine wpList_plain hgd fun K hK => ?_
  unfold Oper.wp
  rw [sbox_run T x ho hx]
  exact hK _ _ (k _ (World.alloc_heap_new W _) ((Below.refl _ W).alloc (Nat.le_refl _) _) (by simp))
/-- one operation of a region that draws -/
theorem step_run {P : Program} {o : Oper} {a : Act} {w w' : World} {K : Act → World → Prop} {Q : Exit → Act → World → Prop} {v : Value} {c : Bool} {E : Prop} (hc : c = true) (h : (execOp a.eval o).run P w = .ok (.value v) w') (hk : K (a.put o.dst v) w') : if c = true then Oper.wp P o a w K Q else E := by
  rw [if_pos hc]; unfold Oper.wp; rw [h]; exact hk
theorem step_runs {P : Program} {o : Oper} {a : Act} {w w' : World} {K : Act → World → Prop} {Q : Exit → Act → World → Prop} {c : Bool} {E : Prop} (hc : c = true) (h : (execOp a.eval o).run P w = .ok .skip w') (hk : K (a.put o.dst undef) w') : if c = true then Oper.wp P o a w K Q else E := by
  rw [if_pos hc]; unfold Oper.wp; rw [h]; exact hk
theorem sstore_step {o : Oper} {a : Act} {W : World} {K : Act → World → Prop} {Q : Exit → Act → World → Prop} {c : Bool} {E : Prop} (T : Sk) (x y : Operand) (ho : o.op = .store T.t x y) {b : Nat} {cs cs' : List Value} (hx : a.eval x = .pointer (some ⟨b, 0, none⟩)) (hy : a.eval y = .agg cs'.toArray) (h : SB T b cs W) (hl : cs.length = T.k) (hl' : cs'.length = T.k) (h1 : cs'.all (·.oneCell') = true) (hc : c = true)
    (k : ∀ W', Hid (SB T b cs' W') → Hid (Ko W b W') → K (a.put o.dst undef) W') : if c = true then Oper.wp Try.prog o a W K Q else E :=
  step_runs hc (sstore_run T x y ho hx hy h hl hl' h1) (k _ (heap_setRow W b _ _ _ h) (Ko.row W b _))
end Go.Proofs.Ytghlgkpfcpcopaa.Ge
namespace Go.Proofs.Ytghlgkpfcpcopaa.Ge
open Go.ChangeShapes Go.WideShapes Go.ChangeAt Go.RowKit Go.Joins Go.Deep
set_option linter.unusedVariables false

/-- a list is appended, in a region that draws -/
theorem step_appL {α : Type} {o : Oper} {a : Act} {Q : Exit → Act → World → Prop} {K : Act → World → Prop} {c : Bool} {E0 : Prop} (E : El α) (s x : Operand) (t : TypeId) (htt : t = E.t)
    (ho : o.op = .call { callee := .builtin .append, args := #[s, x], argTypes := #[t, t] }) (N : Nat) (v : Value) (xs ys : List α) (va : Option Addr) (n cap : Nat) (W : World) (hbig : xs.length + n ≤ 1099511627775) (hs : a.eval s = v) (hown : OwnL E N W v xs)
    (hx : a.eval x = .slice va n cap) (hsrc : Lst E W va ys) (hnil : va = none → n = 0 ∧ cap = 0) (hn : ys.length = n) (hN : N ≤ W.heap.size) (hc : c = true)
    (h : ∀ v' w', Hid (OwnL E N w' v' (xs ++ ys)) → Hid (W.grownBy w' v.ownBlock) → Hid (v'.ownBlock = v.ownBlock ∨ v'.ownBlock = some W.heap.size) → K (a.put o.dst v') w') :
    if c = true then Oper.wp Try.prog o a W K Q else E0 := by
  subst htt
  rw [if_pos hc]
  obtain ⟨i0, hi, hz0, hz1, hz2⟩ := info_of E.hi
  cases va with
  | none =>
    obtain ⟨rfl, rfl⟩ := hnil rfl
    have e0 : ys = [] := List.length_eq_zero_iff.1 hn
    subst e0
    have hr := run_append_owned_none (P := Try.prog) W N E.t o.type E.e i0 E.k E.ht hi v xs.length (E.cs xs) hown.row
    unfold Oper.wp execOp
    simp only [ho, resolve, invoke, builtin, Sem.run_bind, Sem.run_pure, Result.andThen_ok, List.map_toArray, List.map_cons, List.map_nil, hs, hx, hr]
    exact h v W (by rw [List.append_nil]; exact hown) ⟨rfl, rfl, rfl, Nat.le_refl _, fun _ _ _ => rfl⟩ (Or.inl rfl)
  | some ad =>
    obtain ⟨v', w', hr, h2, h3, h4, h5⟩ := run_append_own_at (P := Try.prog) W N E.t o.type E.e i0 E.z E.k E.bytes E.ht hi hz0 hz1 hz2 E.hz E.hk v xs.length (E.cs xs) hown.row ad n cap (E.cs ys) (by rw [cs_len, hn]) (by
      intro j u hj
      have hlt : j < ys.length * E.k := by
        have := (List.getElem?_eq_some_iff.1 hj).1
        rw [cs_len] at this; exact this
      have hk := E.hk
      have hq : j / E.k < ys.length := (Nat.div_lt_iff_lt_mul hk).2 hlt
      have hr : j % E.k < E.k := Nat.mod_lt _ hk
      have hdm : j / E.k * E.k + j % E.k = j := by rw [Nat.mul_comm]; exact Nat.div_add_mod j E.k
      obtain ⟨b, o', e, -, hc⟩ := hsrc.cells (j / E.k) hq
      cases e
      rw [Addr.add_lit]
      have h2 := hc (j % E.k) hr
      rw [Nat.add_assoc, hdm] at h2
      rw [h2, ← cs_at E ys (j / E.k) hq (j % E.k) hr, hdm]
      exact hj) (cs_one E _) (by unfold maxLen; omega) (Nat.le_trans (Nat.mul_le_mul_left _ E.hb) (by omega)) hN
    unfold Oper.wp execOp
    simp only [ho, resolve, invoke, builtin, Sem.run_bind, Sem.run_pure, Result.andThen_ok, List.map_toArray, List.map_cons, List.map_nil, hs, hx, hr]
    exact h v' w' ⟨by rw [cs_app, List.length_append, hn]; exact h2⟩ h3 h5
/-- a part of a slice of bytes -/
theorem slice8_run {o : Oper} {ρ : Operand → Value} {W : World} (x lo hi : Operand) (ho : o.op = .slice 22 x (some lo) (some hi) none) {b f n c l h : Nat} (hx : ρ x = .slice (some ⟨b, f, none⟩) n c) (hl : ρ lo = .int .i64 (l : Int)) (hh : ρ hi = .int .i64 (h : Int)) (h1 : l ≤ h) (h2 : h ≤ c) :
    (execOp ρ o).run Try.prog W = .ok (.value (.slice (if c = l then some ⟨b, f, none⟩ else some ⟨b, f + l, none⟩) (h - l) (c - l))) W := by
  have g1 : (h : Int) ≤ (c : Int) := by omega
  have g2 : (l : Int) ≤ (h : Int) := by omega
  unfold execOp
  rw [ho]
  simp [go_sem, hx, hl, hh, g1, g2]
theorem slice8n_run {o : Oper} {ρ : Operand → Value} {W : World} (x lo : Operand) (ho : o.op = .slice 22 x (some lo) none none) {b f n c l : Nat} (hx : ρ x = .slice (some ⟨b, f, none⟩) n c) (hl : ρ lo = .int .i64 (l : Int)) (h1 : l ≤ n) (h2 : n ≤ c) :
    (execOp ρ o).run Try.prog W = .ok (.value (.slice (if c = l then some ⟨b, f, none⟩ else some ⟨b, f + l, none⟩) (n - l) (c - l))) W := by
  have g2 : (l : Int) ≤ (n : Int) := by omega
  unfold execOp
  rw [ho]
  simp [go_sem, hx, hl, g2]
theorem list_slice8 {ops : Array Oper} {rest : List Oper} {o : Oper} {ac : Act} {Q : Exit → Act → World → Prop} {W : World} (hgd : o.guard = none) (x lo hi : Operand) (ho : o.op = .slice 22 x (some lo) (some hi) none) {b f n c l h : Nat} (hx : ac.eval x = .slice (some ⟨b, f, none⟩) n c) (hl : ac.eval lo = .int .i64 (l : Int)) (hh : ac.eval hi = .int .i64 (h : Int)) (h1 : l ≤ h) (h2 : h ≤ c)
    (k : ∀ va : Option Addr, Hid (¬ c = l → va = some ⟨b, f + l, none⟩) → Hid (va ≠ none) → wpList Try.prog ops Q rest (ac.put o.dst (.slice va (h - l) (c - l))) W) : wpList Try.prog ops Q (o :: rest) ac W := by
  refine wpList_plain hgd fun K hK => ?_
  unfold Oper.wp
  rw [slice8_run x lo hi ho hx hl hh h1 h2]
  exact hK _ _ (k _ (fun e => if_neg e) (by show _ ≠ _; split <;> simp))
theorem list_slice8n {ops : Array Oper} {rest : List Oper} {o : Oper} {ac : Act} {Q : Exit → Act → World → Prop} {W : World} (hgd : o.guard = none) (x lo : Operand) (ho : o.op = .slice 22 x (some lo) none none) {b f n c l : Nat} (hx : ac.eval x = .slice (some ⟨b, f, none⟩) n c) (hl : ac.eval lo = .int .i64 (l : Int)) (h1 : l ≤ n) (h2 : n ≤ c)
    (k : ∀ va : Option Addr, Hid (¬ c = l → va = some ⟨b, f + l, none⟩) → Hid (va ≠ none) → wpList Try.prog ops Q rest (ac.put o.dst (.slice va (n - l) (c - l))) W) : wpList Try.prog ops Q (o :: rest) ac W := by
  refine wpList_plain hgd fun K hK => ?_
  unfold Oper.wp
  rw [slice8n_run x lo ho hx hl h1 h2]
  exact hK _ _ (k _ (fun e => if_neg e) (by show _ ≠ _; split <;> simp))
end Go.Proofs.Ytghlgkpfcpcopaa.Ge
