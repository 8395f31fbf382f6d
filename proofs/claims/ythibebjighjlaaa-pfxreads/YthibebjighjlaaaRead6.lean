/- The document's reading of four numbers with dots: what pfxQuad answers, at every text. -/
import Derived.Test.YthibebjighjlaaaRead5
namespace Go.Proofs.Ythibebjighjlaaa.Rd
open Go.ChangeShapes Go.WideShapes Go.ChangeAt Go.RowKit Go.Proofs.Ythibebjighjlaaa.TM
set_option linter.unusedVariables false

/-- a number behind the place i: the number, and the place behind it -/
def nmP (L : List UInt8) (i : Nat) : Option (Int × Nat) := (rnM (L.drop i) 3).bind fun y => some (y.1, i + y.2)
/-- a dot at the place i, then a number -/
def stP (L : List UInt8) (i : Nat) : Option (Int × Nat) := if L[i]? = some 46 then nmP L (i + 1) else none
def pq1 (L : List UInt8) : Option (Int × Nat) := nmP L 0
def pq2 (L : List UInt8) : Option (Int × Int × Nat) := (pq1 L).bind fun x => (stP L x.2).bind fun y => some (x.1, y.1, y.2)
def pq3 (L : List UInt8) : Option (Int × Int × Int × Nat) := (pq2 L).bind fun x => (stP L x.2.2).bind fun y => some (x.1, x.2.1, y.1, y.2)
def pq4 (L : List UInt8) : Option (Int × Int × Int × Int × Nat) := (pq3 L).bind fun x => (stP L x.2.2.2).bind fun y => some (x.1, x.2.1, x.2.2.1, y.1, y.2)
def fineB (a b c d : Int) : Bool := decide (a ≤ 255 ∧ b ≤ 255 ∧ c ≤ 255 ∧ d ≤ 255)
/-- what pfxQuad answers -/
def pqV (L : List UInt8) : Value := match pq4 L with
  | some (a, b, c, d, i) => .tuple #[.int .u32 (jt (a % 256) (b % 256) (c % 256) (d % 256) 4), .int .i64 i, .bool (fineB a b c d)]
  | none => .tuple #[.int .u32 0, .int .i64 (-1), .bool false]
theorem pqV_none {l : List UInt8} (h : pq4 l = none) : pqV l = .tuple #[.int .u32 0, .int .i64 (-1), .bool false] := by unfold pqV; rw [h]
theorem pqV_some {l : List UInt8} {a b c d : Int} {i : Nat} (h : pq4 l = some (a, b, c, d, i)) : pqV l = .tuple #[.int .u32 (jt (a % 256) (b % 256) (c % 256) (d % 256) 4), .int .i64 i, .bool (fineB a b c d)] := by unfold pqV; rw [h]

theorem nmP_some {L : List UInt8} {i j : Nat} {v : Int} (hi : i ≤ L.length) (h : nmP L i = some (v, j)) : (0 ≤ v ∧ v ≤ 999) ∧ j ≤ L.length ∧ i ≤ j ∧ ∃ c, rnM (L.drop i) 3 = some (v, c) ∧ j = i + c := by
  unfold nmP at h
  cases e : rnM (L.drop i) 3 with
  | none => rw [e] at h; cases h
  | some y =>
    obtain ⟨v', c⟩ := y
    rw [e] at h
    simp at h
    obtain ⟨rfl, rfl⟩ := h
    have := rnM_some (by omega) e
    simp only [List.length_drop] at this
    exact ⟨this.1, by omega, by omega, c, rfl, rfl⟩
theorem nmP_none {L : List UInt8} {i : Nat} (h : nmP L i = none) : rnM (L.drop i) 3 = none := by
  unfold nmP at h
  cases e : rnM (L.drop i) 3 with
  | none => rfl
  | some y => rw [e] at h; cases h

theorem i64_and255 (n : Int) (h0 : 0 ≤ n) (h1 : n ≤ 999) : bits .and .i64 n 255 = n % 256 := by
  obtain ⟨m, rfl⟩ := Int.eq_ofNat_of_zero_le h0
  have hm : m < 2 ^ 64 := by omega
  have e : (BitVec.ofInt 64 (m : Int) &&& BitVec.ofInt 64 255).toNat = m % 256 := by
    rw [BitVec.toNat_and]
    have e1 : (BitVec.ofInt 64 (m : Int)).toNat = m := by simp; omega
    have e2 : (BitVec.ofInt 64 255).toNat = 255 := by decide
    rw [e1, e2]
    exact Nat.and_two_pow_sub_one_eq_mod m 8
  show IntKind.i64.wrap ((BitVec.ofInt 64 (m : Int) &&& BitVec.ofInt 64 255).toNat : Int) = _
  rw [e]
  simp only [IntKind.wrap, IntKind.bits, IntKind.signed]
  simp
  omega
theorem jstep (x v : Int) (hx : 0 ≤ x) (hx2 : x ≤ 16777215) (hv : 0 ≤ v) (hv2 : v ≤ 999) : (x * 256 % 4294967296 + bits .and .i64 v 255 % 4294967296) % 4294967296 = x * 256 + v % 256 := by
  rw [i64_and255 v hv hv2]; omega
theorem dot_test (s : ByteArray) (j : Nat) (hj : j < s.size) : (s.data.toList[j]? = some 46 ↔ (s[j].toNat : Int) = 46) := by
  rw [byte_at s j hj]
  constructor
  · intro h; simp at h; rw [h]; decide
  · intro h; have : s[j] = 46 := by apply UInt8.toNat_inj.1; simp; omega
    rw [this]

set_option maxHeartbeats 8000000 in
theorem quad_any (s : ByteArray) (w : World) (hs : s.size ≤ maxLen) :
    Calls Try.prog 21 #[.string s] w fun e w' => e = .returned (pqV s.data.toList) ∧ w' = w := by
  have HS : Hid (s.size ≤ maxLen) := hs
  unfold maxLen at hs
  have hlen : Hid (s.data.toList.length = s.size) := rfl
  go_enter Try.func21, Try.ntmps21
  go_wp2_with fail
  go_loop [5, 6, 7, 8] (fun p f x i => ∃ (k j : Nat) (a b c d : Int), p = .int .i64 j ∧ j ≤ s.size ∧ i = .int .i64 k ∧ f = .bool (fineB a b c d) ∧ x = .int .u32 (jt (a % 256) (b % 256) (c % 256) (d % 256) k) ∧
    ((k = 0 ∧ j = 0 ∧ a = 0 ∧ b = 0 ∧ c = 0 ∧ d = 0) ∨ (k = 1 ∧ pq1 s.data.toList = some (a, j) ∧ b = 0 ∧ c = 0 ∧ d = 0) ∨ (k = 2 ∧ pq2 s.data.toList = some (a, b, j) ∧ c = 0 ∧ d = 0) ∨ (k = 3 ∧ pq3 s.data.toList = some (a, b, c, j) ∧ d = 0) ∨ (k = 4 ∧ pq4 s.data.toList = some (a, b, c, d, j)))) (fun _ _ _ i => 4 - (intOf i).toNat)
  case atStart => exact ⟨0, 0, 0, 0, 0, 0, rfl, Nat.zero_le _, rfl, rfl, rfl, .inl ⟨rfl, rfl, rfl, rfl, rfl, rfl⟩⟩
  case round =>
    obtain ⟨k, j, a, b, c, d, rfl, hj, rfl, rfl, rfl, hk⟩ := hrel
    rcases hk with ⟨rfl, rfl, rfl, rfl, rfl, rfl⟩ | ⟨rfl, hq, rfl, rfl, rfl⟩ | ⟨rfl, hq, rfl, rfl⟩ | ⟨rfl, hq, rfl⟩ | ⟨rfl, hq⟩
    · cases hn : nmP s.data.toList 0 with
      | none =>
        have HN : Hid (rnM (s.data.toList.drop 0) 3 = none) := nmP_none hn
        have HG : Hid (_ = _) := pqV_none (l := s.data.toList) (by simp [pq4, pq3, pq2, pq1, hn])
        clear hn
        go_wp2_with (go_at_call 24; refine (number_no (i := 0) (most := 3) HN.out (by omega) (by omega) HS.out _).mono ?_; rintro e w1 ⟨rfl, rfl⟩)
        go_ret3
        exact ⟨fin_eq HG.out, rfl⟩
      | some y =>
        obtain ⟨v, j'⟩ := y
        obtain ⟨h1, h2, h3, ct, h4, h5⟩ := nmP_some (by omega) hn
        have HN : Hid (rnM (s.data.toList.drop 0) 3 = some (v, ct)) := h4
        have H5 : Hid (j' = 0 + ct) := h5
        have HP : Hid (nmP s.data.toList 0 = some (v, j')) := hn
        clear hn h4 h5
        have H2 : Hid (j' ≤ s.data.toList.length) := h2
        clear h2 h3
        by_cases hv : v ≤ 255
        · go_wp2_with (go_at_call 24; refine (number_yes (i := 0) (most := 3) HN.out (by omega) (by omega) HS.out _).mono ?_; rintro e w1 ⟨rfl, rfl⟩)
          have h2 := H2.out; have h5 := H5.out; have hl := hlen.out
          exact ⟨⟨1, j', v, 0, 0, 0, congrArg (Value.int .i64) (by omega), by omega, rfl, congrArg Value.bool (by simp [fineB, hv]), congrArg (Value.int .u32) (by rw [jstep _ _ (by simp [jt]) (by simp [jt]) h1.1 h1.2]; simp [jt]), .inr (.inl ⟨rfl, HP.out, rfl, rfl, rfl⟩)⟩, by simp [intOf]⟩
        · go_wp2_with (go_at_call 24; refine (number_yes (i := 0) (most := 3) HN.out (by omega) (by omega) HS.out _).mono ?_; rintro e w1 ⟨rfl, rfl⟩)
          have h2 := H2.out; have h5 := H5.out; have hl := hlen.out
          exact ⟨⟨1, j', v, 0, 0, 0, congrArg (Value.int .i64) (by omega), by omega, rfl, congrArg Value.bool (by simp [fineB]; omega), congrArg (Value.int .u32) (by rw [jstep _ _ (by simp [jt]) (by simp [jt]) h1.1 h1.2]; simp [jt]), .inr (.inl ⟨rfl, HP.out, rfl, rfl, rfl⟩)⟩, by simp [intOf]⟩
    · have HQ : Hid (pq1 s.data.toList = some (a, j)) := hq
      clear hq
      by_cases hjs : j < s.size
      · by_cases hdot : (s[j].toNat : Int) = 46
        · have hd0 : s.data.toList[j]? = some 46 := (dot_test s j hjs).2 hdot
          have bd : ((s[j].toNat : Int) != 46) = false := by simp [hdot]
          clear hdot
          cases hn : nmP s.data.toList (j + 1) with
          | none =>
            have HN : Hid (rnM (s.data.toList.drop (j + 1)) 3 = none) := nmP_none hn
            have HG : Hid (_ = _) := pqV_none (l := s.data.toList) (by simp [pq4, pq3, pq2, HQ.out, (show stP s.data.toList j = none by unfold stP; rw [if_pos hd0]; exact hn)])
            clear hn hd0
            go_wp2_with (go_at_call 24; refine (number_no (i := j + 1) (most := 3) HN.out (by omega) (by omega) HS.out _).mono ?_; rintro e w1 ⟨rfl, rfl⟩)
            go_ret3
            exact ⟨fin_eq HG.out, rfl⟩
          | some y =>
            obtain ⟨v, j'⟩ := y
            have hl := hlen.out
            obtain ⟨h1, h2, h3, ct, h4, h5⟩ := nmP_some (by omega) hn
            have HN : Hid (rnM (s.data.toList.drop (j + 1)) 3 = some (v, ct)) := h4
            have H5 : Hid (j' = j + 1 + ct) := h5
            have H2 : Hid (j' ≤ s.data.toList.length) := h2
            have h6 : j + 1 + ct ≤ s.size := by omega
            have HT : Hid (stP s.data.toList j = some (v, j')) := by show _ = _; unfold stP; rw [if_pos hd0]; exact hn
            clear hn h4 h5 h2 h3 hl hd0
            by_cases hv : v ≤ 255
            · go_wp2_with (go_at_call 24; refine (number_yes (i := j + 1) (most := 3) HN.out (by omega) (by omega) HS.out _).mono ?_; rintro e w1 ⟨rfl, rfl⟩)
              have h2 := H2.out; have h5 := H5.out; have hl := hlen.out
              exact ⟨⟨2, j', a, v, 0, 0, congrArg (Value.int .i64) (by omega), by omega, rfl, congrArg Value.bool (by simp [fineB, hv]), congrArg (Value.int .u32) (by rw [jstep _ _ (by simp only [jt]; omega) (by simp only [jt]; omega) h1.1 h1.2]; simp [jt]), .inr (.inr (.inl ⟨rfl, by simp [pq2, HQ.out, HT.out], rfl, rfl⟩))⟩, by simp [intOf]⟩
            · go_wp2_with (go_at_call 24; refine (number_yes (i := j + 1) (most := 3) HN.out (by omega) (by omega) HS.out _).mono ?_; rintro e w1 ⟨rfl, rfl⟩)
              have h2 := H2.out; have h5 := H5.out; have hl := hlen.out
              exact ⟨⟨2, j', a, v, 0, 0, congrArg (Value.int .i64) (by omega), by omega, rfl, congrArg Value.bool (by simp [fineB]; omega), congrArg (Value.int .u32) (by rw [jstep _ _ (by simp only [jt]; omega) (by simp only [jt]; omega) h1.1 h1.2]; simp [jt]), .inr (.inr (.inl ⟨rfl, by simp [pq2, HQ.out, HT.out], rfl, rfl⟩))⟩, by simp [intOf]⟩
        · have hd0 : ¬ s.data.toList[j]? = some 46 := fun h => hdot ((dot_test s j hjs).1 h)
          have bd : ((s[j].toNat : Int) != 46) = true := by simpa using hdot
          have HG : Hid (_ = _) := pqV_none (l := s.data.toList) (by simp [pq4, pq3, pq2, HQ.out, (show stP s.data.toList j = none by unfold stP; rw [if_neg hd0])])
          clear hd0 hdot
          go_wp2_with fail
          go_ret3
          exact ⟨fin_eq HG.out, rfl⟩
      · have hd0 : ¬ s.data.toList[j]? = some 46 := by rw [List.getElem?_eq_none (by have := hlen.out; omega)]; simp
        have HG : Hid (_ = _) := pqV_none (l := s.data.toList) (by simp [pq4, pq3, pq2, HQ.out, (show stP s.data.toList j = none by unfold stP; rw [if_neg hd0])])
        clear hd0
        go_wp2_with fail
        go_ret3
        exact ⟨fin_eq HG.out, rfl⟩
    · have HQ : Hid (pq2 s.data.toList = some (a, b, j)) := hq
      clear hq
      by_cases hjs : j < s.size
      · by_cases hdot : (s[j].toNat : Int) = 46
        · have hd0 : s.data.toList[j]? = some 46 := (dot_test s j hjs).2 hdot
          have bd : ((s[j].toNat : Int) != 46) = false := by simp [hdot]
          clear hdot
          cases hn : nmP s.data.toList (j + 1) with
          | none =>
            have HN : Hid (rnM (s.data.toList.drop (j + 1)) 3 = none) := nmP_none hn
            have HG : Hid (_ = _) := pqV_none (l := s.data.toList) (by simp [pq4, pq3, HQ.out, (show stP s.data.toList j = none by unfold stP; rw [if_pos hd0]; exact hn)])
            clear hn hd0
            go_wp2_with (go_at_call 24; refine (number_no (i := j + 1) (most := 3) HN.out (by omega) (by omega) HS.out _).mono ?_; rintro e w1 ⟨rfl, rfl⟩)
            go_ret3
            exact ⟨fin_eq HG.out, rfl⟩
          | some y =>
            obtain ⟨v, j'⟩ := y
            have hl := hlen.out
            obtain ⟨h1, h2, h3, ct, h4, h5⟩ := nmP_some (by omega) hn
            have HN : Hid (rnM (s.data.toList.drop (j + 1)) 3 = some (v, ct)) := h4
            have H5 : Hid (j' = j + 1 + ct) := h5
            have H2 : Hid (j' ≤ s.data.toList.length) := h2
            have h6 : j + 1 + ct ≤ s.size := by omega
            have HT : Hid (stP s.data.toList j = some (v, j')) := by show _ = _; unfold stP; rw [if_pos hd0]; exact hn
            clear hn h4 h5 h2 h3 hl hd0
            by_cases hv : v ≤ 255
            · go_wp2_with (go_at_call 24; refine (number_yes (i := j + 1) (most := 3) HN.out (by omega) (by omega) HS.out _).mono ?_; rintro e w1 ⟨rfl, rfl⟩)
              have h2 := H2.out; have h5 := H5.out; have hl := hlen.out
              exact ⟨⟨3, j', a, b, v, 0, congrArg (Value.int .i64) (by omega), by omega, rfl, congrArg Value.bool (by simp [fineB, hv]), congrArg (Value.int .u32) (by rw [jstep _ _ (by simp only [jt]; omega) (by simp only [jt]; omega) h1.1 h1.2]; simp [jt]), .inr (.inr (.inr (.inl ⟨rfl, by simp [pq3, HQ.out, HT.out], rfl⟩)))⟩, by simp [intOf]⟩
            · go_wp2_with (go_at_call 24; refine (number_yes (i := j + 1) (most := 3) HN.out (by omega) (by omega) HS.out _).mono ?_; rintro e w1 ⟨rfl, rfl⟩)
              have h2 := H2.out; have h5 := H5.out; have hl := hlen.out
              exact ⟨⟨3, j', a, b, v, 0, congrArg (Value.int .i64) (by omega), by omega, rfl, congrArg Value.bool (by simp [fineB]; omega), congrArg (Value.int .u32) (by rw [jstep _ _ (by simp only [jt]; omega) (by simp only [jt]; omega) h1.1 h1.2]; simp [jt]), .inr (.inr (.inr (.inl ⟨rfl, by simp [pq3, HQ.out, HT.out], rfl⟩)))⟩, by simp [intOf]⟩
        · have hd0 : ¬ s.data.toList[j]? = some 46 := fun h => hdot ((dot_test s j hjs).1 h)
          have bd : ((s[j].toNat : Int) != 46) = true := by simpa using hdot
          have HG : Hid (_ = _) := pqV_none (l := s.data.toList) (by simp [pq4, pq3, HQ.out, (show stP s.data.toList j = none by unfold stP; rw [if_neg hd0])])
          clear hd0 hdot
          go_wp2_with fail
          go_ret3
          exact ⟨fin_eq HG.out, rfl⟩
      · have hd0 : ¬ s.data.toList[j]? = some 46 := by rw [List.getElem?_eq_none (by have := hlen.out; omega)]; simp
        have HG : Hid (_ = _) := pqV_none (l := s.data.toList) (by simp [pq4, pq3, HQ.out, (show stP s.data.toList j = none by unfold stP; rw [if_neg hd0])])
        clear hd0
        go_wp2_with fail
        go_ret3
        exact ⟨fin_eq HG.out, rfl⟩
    · have HQ : Hid (pq3 s.data.toList = some (a, b, c, j)) := hq
      clear hq
      by_cases hjs : j < s.size
      · by_cases hdot : (s[j].toNat : Int) = 46
        · have hd0 : s.data.toList[j]? = some 46 := (dot_test s j hjs).2 hdot
          have bd : ((s[j].toNat : Int) != 46) = false := by simp [hdot]
          clear hdot
          cases hn : nmP s.data.toList (j + 1) with
          | none =>
            have HN : Hid (rnM (s.data.toList.drop (j + 1)) 3 = none) := nmP_none hn
            have HG : Hid (_ = _) := pqV_none (l := s.data.toList) (by simp [pq4, HQ.out, (show stP s.data.toList j = none by unfold stP; rw [if_pos hd0]; exact hn)])
            clear hn hd0
            go_wp2_with (go_at_call 24; refine (number_no (i := j + 1) (most := 3) HN.out (by omega) (by omega) HS.out _).mono ?_; rintro e w1 ⟨rfl, rfl⟩)
            go_ret3
            exact ⟨fin_eq HG.out, rfl⟩
          | some y =>
            obtain ⟨v, j'⟩ := y
            have hl := hlen.out
            obtain ⟨h1, h2, h3, ct, h4, h5⟩ := nmP_some (by omega) hn
            have HN : Hid (rnM (s.data.toList.drop (j + 1)) 3 = some (v, ct)) := h4
            have H5 : Hid (j' = j + 1 + ct) := h5
            have H2 : Hid (j' ≤ s.data.toList.length) := h2
            have h6 : j + 1 + ct ≤ s.size := by omega
            have HT : Hid (stP s.data.toList j = some (v, j')) := by show _ = _; unfold stP; rw [if_pos hd0]; exact hn
            clear hn h4 h5 h2 h3 hl hd0
            by_cases hv : v ≤ 255
            · go_wp2_with (go_at_call 24; refine (number_yes (i := j + 1) (most := 3) HN.out (by omega) (by omega) HS.out _).mono ?_; rintro e w1 ⟨rfl, rfl⟩)
              have h2 := H2.out; have h5 := H5.out; have hl := hlen.out
              exact ⟨⟨4, j', a, b, c, v, congrArg (Value.int .i64) (by omega), by omega, rfl, congrArg Value.bool (by simp [fineB, hv]), congrArg (Value.int .u32) (by rw [jstep _ _ (by simp only [jt]; omega) (by simp only [jt]; omega) h1.1 h1.2]; simp [jt]), .inr (.inr (.inr (.inr ⟨rfl, by simp [pq4, HQ.out, HT.out]⟩)))⟩, by simp [intOf]⟩
            · go_wp2_with (go_at_call 24; refine (number_yes (i := j + 1) (most := 3) HN.out (by omega) (by omega) HS.out _).mono ?_; rintro e w1 ⟨rfl, rfl⟩)
              have h2 := H2.out; have h5 := H5.out; have hl := hlen.out
              exact ⟨⟨4, j', a, b, c, v, congrArg (Value.int .i64) (by omega), by omega, rfl, congrArg Value.bool (by simp [fineB]; omega), congrArg (Value.int .u32) (by rw [jstep _ _ (by simp only [jt]; omega) (by simp only [jt]; omega) h1.1 h1.2]; simp [jt]), .inr (.inr (.inr (.inr ⟨rfl, by simp [pq4, HQ.out, HT.out]⟩)))⟩, by simp [intOf]⟩
        · have hd0 : ¬ s.data.toList[j]? = some 46 := fun h => hdot ((dot_test s j hjs).1 h)
          have bd : ((s[j].toNat : Int) != 46) = true := by simpa using hdot
          have HG : Hid (_ = _) := pqV_none (l := s.data.toList) (by simp [pq4, HQ.out, (show stP s.data.toList j = none by unfold stP; rw [if_neg hd0])])
          clear hd0 hdot
          go_wp2_with fail
          go_ret3
          exact ⟨fin_eq HG.out, rfl⟩
      · have hd0 : ¬ s.data.toList[j]? = some 46 := by rw [List.getElem?_eq_none (by have := hlen.out; omega)]; simp
        have HG : Hid (_ = _) := pqV_none (l := s.data.toList) (by simp [pq4, HQ.out, (show stP s.data.toList j = none by unfold stP; rw [if_neg hd0])])
        clear hd0
        go_wp2_with fail
        go_ret3
        exact ⟨fin_eq HG.out, rfl⟩
    · have HG : Hid (_ = _) := pqV_some hq
      clear hq
      go_wp2_with fail
      go_ret3
      exact ⟨fin_eq HG.out, rfl⟩
end Go.Proofs.Ythibebjighjlaaa.Rd
