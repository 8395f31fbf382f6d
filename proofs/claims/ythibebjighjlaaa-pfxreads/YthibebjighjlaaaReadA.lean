/- The document's ParseAddr and Parse: what each answers, at every text. -/
import Derived.Test.YthibebjighjlaaaRead9
namespace Go.Proofs.Ythibebjighjlaaa.Rd
open Go.ChangeShapes Go.WideShapes Go.ChangeAt Go.RowKit Go.Proofs.Ythibebjighjlaaa.TM Go.Proofs.Ythibebjighjlaaa.PM Go.Proofs.Ythibebjighjlaaa.Ask
set_option linter.unusedVariables false

theorem rquad_no {s : ByteArray} (h : pq4 s.data.toList = none) (hs : s.size ≤ maxLen) (w : World) :
    Calls Try.prog 21 #[.string s] w fun e w' => e = .returned (.tuple #[.int .u32 0, .int .i64 (-1), .bool false]) ∧ w' = w := by
  have := quad_any s w hs
  rw [pqV_none h] at this
  exact this
theorem rquad_yes {s : ByteArray} {a b c d : Int} {i : Nat} (h : pq4 s.data.toList = some (a, b, c, d, i)) (hs : s.size ≤ maxLen) (f : Bool) (hf : fineB a b c d = f) (x : Int) (hx : jt (a % 256) (b % 256) (c % 256) (d % 256) 4 = x) (w : World) :
    Calls Try.prog 21 #[.string s] w fun e w' => e = .returned (.tuple #[.int .u32 x, .int .i64 i, .bool f]) ∧ w' = w := by
  have := quad_any s w hs
  rw [pqV_some h, hf, hx] at this
  exact this
theorem pq4_le {L : List UInt8} {a b c d : Int} {i : Nat} (h : pq4 L = some (a, b, c, d, i)) : i ≤ L.length := by
  rcases same4 L with ⟨a', b', c', d', i', h1, h2, hi⟩ | ⟨h1, _⟩
  · rw [h] at h1; simp at h1; omega
  · rw [h] at h1; cases h1
theorem jtm_bd (a b c d : Int) : 0 ≤ jt (a % 256) (b % 256) (c % 256) (d % 256) 4 ∧ jt (a % 256) (b % 256) (c % 256) (d % 256) 4 < 4294967296 := by simp only [jt]; omega

set_option maxHeartbeats 4000000 in
theorem rparseAddr_any (s : ByteArray) (w : World) (hs : s.size ≤ maxLen) :
    Calls Try.prog 8 #[.string s] w fun e w' => e = .returned (.tuple #[.int .u32 (paR s.data.toList).1, .int .i64 (paR s.data.toList).2]) ∧ w' = w := by
  have HS : Hid (s.size ≤ maxLen) := hs
  unfold maxLen at hs
  have hlen : s.data.toList.length = s.size := rfl
  cases hq : pq4 s.data.toList with
  | none =>
    have HQ : Hid (pq4 s.data.toList = none) := hq
    have HG : Hid (Value.tuple #[.int .u32 (paR s.data.toList).1, .int .i64 (paR s.data.toList).2] = .tuple #[.int .u32 0, .int .i64 1]) := by show _ = _; simp [paR, hq]
    have t1 : ((-1 : Int) != (s.size : Int)) = true := by rw [bne_iff_ne]; omega
    clear hq hlen
    go_enter Try.func8, Try.ntmps8
    go_wp2_with (go_at_call 21; refine (rquad_no HQ.out HS.out _).mono ?_; rintro e w1 ⟨rfl, rfl⟩)
    go_ret2
    exact ⟨fin_eq HG.out, rfl⟩
  | some y =>
    obtain ⟨a, b, c, d, i⟩ := y
    have HQ : Hid (pq4 s.data.toList = some (a, b, c, d, i)) := hq
    obtain ⟨x, hx⟩ : ∃ x, jt (a % 256) (b % 256) (c % 256) (d % 256) 4 = x := ⟨_, rfl⟩
    have HX : Hid (_ = _) := hx
    by_cases hi : i = s.size
    · have t1 : ((i : Int) != (s.size : Int)) = false := by simp [hi]
      by_cases hf : fineB a b c d = true
      · have HF : Hid (fineB a b c d = true) := hf
        have HG : Hid (Value.tuple #[.int .u32 (paR s.data.toList).1, .int .i64 (paR s.data.toList).2] = .tuple #[.int .u32 x, .int .i64 0]) := by show _ = _; unfold paR; rw [hq]; simp only; rw [if_pos (by omega), if_pos hf, hx]
        clear hq hlen hi hf hx
        go_enter Try.func8, Try.ntmps8
        go_wp2_with (go_at_call 21; refine (rquad_yes HQ.out HS.out true HF.out x HX.out _).mono ?_; rintro e w1 ⟨rfl, rfl⟩)
        go_ret2
        exact ⟨fin_eq HG.out, rfl⟩
      · have HF : Hid (fineB a b c d = false) := by show _ = _; simpa using hf
        have HG : Hid (Value.tuple #[.int .u32 (paR s.data.toList).1, .int .i64 (paR s.data.toList).2] = .tuple #[.int .u32 0, .int .i64 2]) := by show _ = _; unfold paR; rw [hq]; simp only; rw [if_pos (by omega), if_neg hf]
        clear hq hlen hi hf hx
        go_enter Try.func8, Try.ntmps8
        go_wp2_with (go_at_call 21; refine (rquad_yes HQ.out HS.out false HF.out x HX.out _).mono ?_; rintro e w1 ⟨rfl, rfl⟩)
        go_ret2
        exact ⟨fin_eq HG.out, rfl⟩
    · have t1 : ((i : Int) != (s.size : Int)) = true := by rw [bne_iff_ne]; omega
      obtain ⟨f, hf⟩ : ∃ f, fineB a b c d = f := ⟨_, rfl⟩
      have HF : Hid (_ = _) := hf
      have HG : Hid (Value.tuple #[.int .u32 (paR s.data.toList).1, .int .i64 (paR s.data.toList).2] = .tuple #[.int .u32 0, .int .i64 1]) := by show _ = _; unfold paR; rw [hq]; simp only; rw [if_neg (by omega)]
      clear hq hlen hi hf hx
      go_enter Try.func8, Try.ntmps8
      go_wp2_with (go_at_call 21; refine (rquad_yes HQ.out HS.out f HF.out x HX.out _).mono ?_; rintro e w1 ⟨rfl, rfl⟩)
      go_ret2
      exact ⟨fin_eq HG.out, rfl⟩

set_option maxHeartbeats 4000000 in
theorem rparse_q (s : ByteArray) (w : World) (hs : s.size ≤ maxLen) (hq : pq4 s.data.toList = none) :
    Calls Try.prog 10 #[.string s] w fun e w' => e = .returned (prV (prR s.data.toList)) ∧ Below w.heap.size w w' := by
  have HS : Hid (s.size ≤ maxLen) := hs
  unfold maxLen at hs
  have hlen : s.data.toList.length = s.size := rfl
  have HQ : Hid (pq4 s.data.toList = none) := hq
  have HG : Hid (prV (prR s.data.toList) = .tuple #[.agg #[.int .u32 0, .int .i64 0], .int .i64 1]) := by show _ = _; simp [prR, hq, prV]
  clear hq hlen
  go_enter Try.func10, Try.ntmps10
  go_wp2_with (go_at_call 21; refine (rquad_no HQ.out HS.out _).mono ?_; rintro e w1 ⟨rfl, rfl⟩)
  exact bodyPost_ret (v := .tuple #[.agg #[.int .u32 0, .int .i64 0], .int .i64 1]) (by simp [results, Try.results10, go_sem]) rfl ⟨fin_eq HG.out, by repeat (first | exact Below.refl _ _ | refine Below.setCell ?_ (by simp) _ | refine below_drewN ?_ _ | refine Below.trans ?_ (Below.mono hb3 (by first | (simp; omega) | simp | omega)) | refine Below.alloc ?_ (by first | (simp; omega) | simp | omega) _)⟩

set_option maxHeartbeats 4000000 in
theorem rparse_e (s : ByteArray) (w : World) (hs : s.size ≤ maxLen) (a b c d : Int) (i : Nat) (hq : pq4 s.data.toList = some (a, b, c, d, i)) (he : i = s.size) :
    Calls Try.prog 10 #[.string s] w fun e w' => e = .returned (prV (prR s.data.toList)) ∧ Below w.heap.size w w' := by
  have HS : Hid (s.size ≤ maxLen) := hs
  unfold maxLen at hs
  have hlen : s.data.toList.length = s.size := rfl
  have HQ : Hid (pq4 s.data.toList = some (a, b, c, d, i)) := hq
  have hi := pq4_le hq
  obtain ⟨x, hx⟩ : ∃ x, jt (a % 256) (b % 256) (c % 256) (d % 256) 4 = x := ⟨_, rfl⟩
  have HX : Hid (_ = _) := hx
  obtain ⟨f, hf⟩ : ∃ f, fineB a b c d = f := ⟨_, rfl⟩
  have HF : Hid (_ = _) := hf
  have HG : Hid (prV (prR s.data.toList) = .tuple #[.agg #[.int .u32 0, .int .i64 0], .int .i64 1]) := by
    show _ = _; unfold prR; rw [hq]; simp only; rw [if_neg (by rw [List.getElem?_eq_none (by omega)]; simp)]; rfl
  have t1 : (s.size : Int) ≤ (i : Int) := by omega
  have t0 : ¬ (i : Int) < 0 := by omega
  clear hq hx hf hlen he hi
  go_enter Try.func10, Try.ntmps10
  go_wp2_with (go_at_call 21; refine (rquad_yes HQ.out HS.out f HF.out x HX.out _).mono ?_; rintro e w1 ⟨rfl, rfl⟩)
  exact bodyPost_ret (v := .tuple #[.agg #[.int .u32 0, .int .i64 0], .int .i64 1]) (by simp [results, Try.results10, go_sem]) rfl ⟨fin_eq HG.out, by repeat (first | exact Below.refl _ _ | refine Below.setCell ?_ (by simp) _ | refine below_drewN ?_ _ | refine Below.trans ?_ (Below.mono hb3 (by first | (simp; omega) | simp | omega)) | refine Below.alloc ?_ (by first | (simp; omega) | simp | omega) _)⟩

set_option maxHeartbeats 4000000 in
theorem rparse_s (s : ByteArray) (w : World) (hs : s.size ≤ maxLen) (a b c d : Int) (i : Nat) (hq : pq4 s.data.toList = some (a, b, c, d, i)) (he : i < s.size) (hd : ¬ (s[i].toNat : Int) = 47) :
    Calls Try.prog 10 #[.string s] w fun e w' => e = .returned (prV (prR s.data.toList)) ∧ Below w.heap.size w w' := by
  have HS : Hid (s.size ≤ maxLen) := hs
  unfold maxLen at hs
  have hlen : s.data.toList.length = s.size := rfl
  have HQ : Hid (pq4 s.data.toList = some (a, b, c, d, i)) := hq
  have hi := pq4_le hq
  obtain ⟨x, hx⟩ : ∃ x, jt (a % 256) (b % 256) (c % 256) (d % 256) 4 = x := ⟨_, rfl⟩
  have HX : Hid (_ = _) := hx
  obtain ⟨f, hf⟩ : ∃ f, fineB a b c d = f := ⟨_, rfl⟩
  have HF : Hid (_ = _) := hf
  have HG : Hid (prV (prR s.data.toList) = .tuple #[.agg #[.int .u32 0, .int .i64 0], .int .i64 1]) := by
    show _ = _; unfold prR; rw [hq]; simp only; rw [if_neg (by rw [byte_at s i he]; intro h; simp at h; apply hd; rw [h]; decide)]; rfl
  have t1 : ¬ (s.size : Int) ≤ (i : Int) := by omega
  have t0 : ¬ (i : Int) < 0 := by omega
  have t2 : ((s[i].toNat : Int) != 47) = true := by simpa using hd
  clear hq hx hf hlen hi hd
  go_enter Try.func10, Try.ntmps10
  go_wp2_with (go_at_call 21; refine (rquad_yes HQ.out HS.out f HF.out x HX.out _).mono ?_; rintro e w1 ⟨rfl, rfl⟩)
  exact bodyPost_ret (v := .tuple #[.agg #[.int .u32 0, .int .i64 0], .int .i64 1]) (by simp [results, Try.results10, go_sem]) rfl ⟨fin_eq HG.out, by repeat (first | exact Below.refl _ _ | refine Below.setCell ?_ (by simp) _ | refine below_drewN ?_ _ | refine Below.trans ?_ (Below.mono hb3 (by first | (simp; omega) | simp | omega)) | refine Below.alloc ?_ (by first | (simp; omega) | simp | omega) _)⟩

set_option maxHeartbeats 4000000 in
theorem rparse_n (s : ByteArray) (w : World) (hs : s.size ≤ maxLen) (a b c d : Int) (i : Nat) (hq : pq4 s.data.toList = some (a, b, c, d, i)) (he : i < s.size) (hd : (s[i].toNat : Int) = 47) (hn : rnM (s.data.toList.drop (i + 1)) 2 = none) :
    Calls Try.prog 10 #[.string s] w fun e w' => e = .returned (prV (prR s.data.toList)) ∧ Below w.heap.size w w' := by
  have HS : Hid (s.size ≤ maxLen) := hs
  unfold maxLen at hs
  have hlen : s.data.toList.length = s.size := rfl
  have HQ : Hid (pq4 s.data.toList = some (a, b, c, d, i)) := hq
  have hi := pq4_le hq
  obtain ⟨x, hx⟩ : ∃ x, jt (a % 256) (b % 256) (c % 256) (d % 256) 4 = x := ⟨_, rfl⟩
  have HX : Hid (_ = _) := hx
  obtain ⟨f, hf⟩ : ∃ f, fineB a b c d = f := ⟨_, rfl⟩
  have HF : Hid (_ = _) := hf
  have h47 : s.data.toList[i]? = some 47 := by
    rw [byte_at s i he]; have : s[i] = 47 := by apply UInt8.toNat_inj.1; simp; omega
    rw [this]
  have t1 : ¬ (s.size : Int) ≤ (i : Int) := by omega
  have t0 : ¬ (i : Int) < 0 := by omega
  have t2 : ((s[i].toNat : Int) != 47) = false := by simpa using hd
  have HN : Hid (rnM (s.data.toList.drop (i + 1)) 2 = none) := hn
  have HG : Hid (prV (prR s.data.toList) = .tuple #[.agg #[.int .u32 0, .int .i64 0], .int .i64 1]) := by
    show _ = _; unfold prR; rw [hq]; simp only; rw [if_pos h47, hn]; rfl
  have t3 : ((-1 : Int) != (s.size : Int)) = true := by rw [bne_iff_ne]; omega
  clear hq hx hf hlen hi hd hn h47
  go_enter Try.func10, Try.ntmps10
  go_wp2_with (first | (go_at_call 21; refine (rquad_yes HQ.out HS.out f HF.out x HX.out _).mono ?_; rintro e w1 ⟨rfl, rfl⟩) | (go_at_call 24; refine (number_no (i := i + 1) (most := 2) HN.out (by omega) (by omega) HS.out _).mono ?_; rintro e w1 ⟨rfl, rfl⟩))
  exact bodyPost_ret (v := .tuple #[.agg #[.int .u32 0, .int .i64 0], .int .i64 1]) (by simp [results, Try.results10, go_sem]) rfl ⟨fin_eq HG.out, by repeat (first | exact Below.refl _ _ | refine Below.setCell ?_ (by simp) _ | refine below_drewN ?_ _ | refine Below.trans ?_ (Below.mono hb3 (by first | (simp; omega) | simp | omega)) | refine Below.alloc ?_ (by first | (simp; omega) | simp | omega) _)⟩

set_option maxHeartbeats 4000000 in
theorem rparse_j (s : ByteArray) (w : World) (hs : s.size ≤ maxLen) (a b c d : Int) (i : Nat) (hq : pq4 s.data.toList = some (a, b, c, d, i)) (he : i < s.size) (hd : (s[i].toNat : Int) = 47) (n : Int) (k : Nat) (hn : rnM (s.data.toList.drop (i + 1)) 2 = some (n, k)) (hj : ¬ i + 1 + k = s.size) :
    Calls Try.prog 10 #[.string s] w fun e w' => e = .returned (prV (prR s.data.toList)) ∧ Below w.heap.size w w' := by
  have HS : Hid (s.size ≤ maxLen) := hs
  unfold maxLen at hs
  have hlen : s.data.toList.length = s.size := rfl
  have HQ : Hid (pq4 s.data.toList = some (a, b, c, d, i)) := hq
  have hi := pq4_le hq
  obtain ⟨x, hx⟩ : ∃ x, jt (a % 256) (b % 256) (c % 256) (d % 256) 4 = x := ⟨_, rfl⟩
  have HX : Hid (_ = _) := hx
  obtain ⟨f, hf⟩ : ∃ f, fineB a b c d = f := ⟨_, rfl⟩
  have HF : Hid (_ = _) := hf
  have h47 : s.data.toList[i]? = some 47 := by
    rw [byte_at s i he]; have : s[i] = 47 := by apply UInt8.toNat_inj.1; simp; omega
    rw [this]
  have t1 : ¬ (s.size : Int) ≤ (i : Int) := by omega
  have t0 : ¬ (i : Int) < 0 := by omega
  have t2 : ((s[i].toNat : Int) != 47) = false := by simpa using hd
  have HN : Hid (rnM (s.data.toList.drop (i + 1)) 2 = some (n, k)) := hn
  have hk := rnM_some (by omega) hn
  have h4 := hk.1
  have hk2 : k ≤ s.size - (i + 1) := by have := hk.2.1; simp only [List.length_drop] at this; omega
  have HG : Hid (prV (prR s.data.toList) = .tuple #[.agg #[.int .u32 0, .int .i64 0], .int .i64 1]) := by
    show _ = _; unfold prR; rw [hq]; simp only; rw [if_pos h47, hn]; simp only; rw [if_neg (by omega)]; rfl
  have t3 : ((i : Int) + 1 + (k : Int) != (s.size : Int)) = true := by rw [bne_iff_ne]; omega
  clear hq hx hf hlen hi hd hn h47 hk hj
  go_enter Try.func10, Try.ntmps10
  go_wp2_with (first | (go_at_call 21; refine (rquad_yes HQ.out HS.out f HF.out x HX.out _).mono ?_; rintro e w1 ⟨rfl, rfl⟩) | (go_at_call 24; refine (number_yes (i := i + 1) (most := 2) HN.out (by omega) (by omega) HS.out _).mono ?_; rintro e w1 ⟨rfl, rfl⟩))
  exact bodyPost_ret (v := .tuple #[.agg #[.int .u32 0, .int .i64 0], .int .i64 1]) (by simp [results, Try.results10, go_sem]) rfl ⟨fin_eq HG.out, by repeat (first | exact Below.refl _ _ | refine Below.setCell ?_ (by simp) _ | refine below_drewN ?_ _ | refine Below.trans ?_ (Below.mono hb3 (by first | (simp; omega) | simp | omega)) | refine Below.alloc ?_ (by first | (simp; omega) | simp | omega) _)⟩

set_option maxHeartbeats 4000000 in
theorem rparse_f (s : ByteArray) (w : World) (hs : s.size ≤ maxLen) (a b c d : Int) (i : Nat) (hq : pq4 s.data.toList = some (a, b, c, d, i)) (he : i < s.size) (hd : (s[i].toNat : Int) = 47) (n : Int) (k : Nat) (hn : rnM (s.data.toList.drop (i + 1)) 2 = some (n, k)) (hj : i + 1 + k = s.size) (hff : fineB a b c d = false) :
    Calls Try.prog 10 #[.string s] w fun e w' => e = .returned (prV (prR s.data.toList)) ∧ Below w.heap.size w w' := by
  have HS : Hid (s.size ≤ maxLen) := hs
  unfold maxLen at hs
  have hlen : s.data.toList.length = s.size := rfl
  have HQ : Hid (pq4 s.data.toList = some (a, b, c, d, i)) := hq
  have hi := pq4_le hq
  obtain ⟨x, hx⟩ : ∃ x, jt (a % 256) (b % 256) (c % 256) (d % 256) 4 = x := ⟨_, rfl⟩
  have HX : Hid (_ = _) := hx
  obtain ⟨f, hf⟩ : ∃ f, fineB a b c d = f := ⟨_, rfl⟩
  have HF : Hid (_ = _) := hf
  have h47 : s.data.toList[i]? = some 47 := by
    rw [byte_at s i he]; have : s[i] = 47 := by apply UInt8.toNat_inj.1; simp; omega
    rw [this]
  have t1 : ¬ (s.size : Int) ≤ (i : Int) := by omega
  have t0 : ¬ (i : Int) < 0 := by omega
  have t2 : ((s[i].toNat : Int) != 47) = false := by simpa using hd
  have HN : Hid (rnM (s.data.toList.drop (i + 1)) 2 = some (n, k)) := hn
  have hk := rnM_some (by omega) hn
  have h4 := hk.1
  have hk2 : k ≤ s.size - (i + 1) := by have := hk.2.1; simp only [List.length_drop] at this; omega
  have t3 : ((i : Int) + 1 + (k : Int) != (s.size : Int)) = false := by rw [bne_eq_false_iff_eq]; omega
  have hf2 : f = false := by rw [← hf, hff]
  subst hf2
  have HG : Hid (prV (prR s.data.toList) = .tuple #[.agg #[.int .u32 0, .int .i64 0], .int .i64 2]) := by
    show _ = _; unfold prR; rw [hq]; simp only; rw [if_pos h47, hn]; simp only; rw [if_pos (by omega), if_neg (by simp [hff])]; rfl
  clear hq hx hf hlen hi hd hn h47 hk hj hff
  go_enter Try.func10, Try.ntmps10
  go_wp2_with (first | (go_at_call 21; refine (rquad_yes HQ.out HS.out false HF.out x HX.out _).mono ?_; rintro e w1 ⟨rfl, rfl⟩) | (go_at_call 24; refine (number_yes (i := i + 1) (most := 2) HN.out (by omega) (by omega) HS.out _).mono ?_; rintro e w1 ⟨rfl, rfl⟩))
  exact bodyPost_ret (v := .tuple #[.agg #[.int .u32 0, .int .i64 0], .int .i64 2]) (by simp [results, Try.results10, go_sem]) rfl ⟨fin_eq HG.out, by repeat (first | exact Below.refl _ _ | refine Below.setCell ?_ (by simp) _ | refine below_drewN ?_ _ | refine Below.trans ?_ (Below.mono hb3 (by first | (simp; omega) | simp | omega)) | refine Below.alloc ?_ (by first | (simp; omega) | simp | omega) _)⟩

set_option maxHeartbeats 4000000 in
theorem rparse_g (s : ByteArray) (w : World) (hs : s.size ≤ maxLen) (a b c d : Int) (i : Nat) (hq : pq4 s.data.toList = some (a, b, c, d, i)) (he : i < s.size) (hd : (s[i].toNat : Int) = 47) (n : Int) (k : Nat) (hn : rnM (s.data.toList.drop (i + 1)) 2 = some (n, k)) (hj : i + 1 + k = s.size) (hff : fineB a b c d = true) (h32 : 32 < n) :
    Calls Try.prog 10 #[.string s] w fun e w' => e = .returned (prV (prR s.data.toList)) ∧ Below w.heap.size w w' := by
  have HS : Hid (s.size ≤ maxLen) := hs
  unfold maxLen at hs
  have hlen : s.data.toList.length = s.size := rfl
  have HQ : Hid (pq4 s.data.toList = some (a, b, c, d, i)) := hq
  have hi := pq4_le hq
  obtain ⟨x, hx⟩ : ∃ x, jt (a % 256) (b % 256) (c % 256) (d % 256) 4 = x := ⟨_, rfl⟩
  have HX : Hid (_ = _) := hx
  obtain ⟨f, hf⟩ : ∃ f, fineB a b c d = f := ⟨_, rfl⟩
  have HF : Hid (_ = _) := hf
  have h47 : s.data.toList[i]? = some 47 := by
    rw [byte_at s i he]; have : s[i] = 47 := by apply UInt8.toNat_inj.1; simp; omega
    rw [this]
  have t1 : ¬ (s.size : Int) ≤ (i : Int) := by omega
  have t0 : ¬ (i : Int) < 0 := by omega
  have t2 : ((s[i].toNat : Int) != 47) = false := by simpa using hd
  have HN : Hid (rnM (s.data.toList.drop (i + 1)) 2 = some (n, k)) := hn
  have hk := rnM_some (by omega) hn
  have h4 := hk.1
  have hk2 : k ≤ s.size - (i + 1) := by have := hk.2.1; simp only [List.length_drop] at this; omega
  have t3 : ((i : Int) + 1 + (k : Int) != (s.size : Int)) = false := by rw [bne_eq_false_iff_eq]; omega
  have hf2 : f = true := by rw [← hf, hff]
  subst hf2
  have HG : Hid (prV (prR s.data.toList) = .tuple #[.agg #[.int .u32 0, .int .i64 0], .int .i64 2]) := by
    show _ = _; unfold prR; rw [hq]; simp only; rw [if_pos h47, hn]; simp only; rw [if_pos (by omega), if_neg (by omega)]; rfl
  clear hq hx hf hlen hi hd hn h47 hk hj hff
  go_enter Try.func10, Try.ntmps10
  go_wp2_with (first | (go_at_call 21; refine (rquad_yes HQ.out HS.out true HF.out x HX.out _).mono ?_; rintro e w1 ⟨rfl, rfl⟩) | (go_at_call 24; refine (number_yes (i := i + 1) (most := 2) HN.out (by omega) (by omega) HS.out _).mono ?_; rintro e w1 ⟨rfl, rfl⟩))
  exact bodyPost_ret (v := .tuple #[.agg #[.int .u32 0, .int .i64 0], .int .i64 2]) (by simp [results, Try.results10, go_sem]) rfl ⟨fin_eq HG.out, by repeat (first | exact Below.refl _ _ | refine Below.setCell ?_ (by simp) _ | refine below_drewN ?_ _ | refine Below.trans ?_ (Below.mono hb3 (by first | (simp; omega) | simp | omega)) | refine Below.alloc ?_ (by first | (simp; omega) | simp | omega) _)⟩

set_option maxHeartbeats 4000000 in
theorem rparse_v (s : ByteArray) (w : World) (hs : s.size ≤ maxLen) (a b c d : Int) (i : Nat) (hq : pq4 s.data.toList = some (a, b, c, d, i)) (he : i < s.size) (hd : (s[i].toNat : Int) = 47) (n : Int) (k : Nat) (hn : rnM (s.data.toList.drop (i + 1)) 2 = some (n, k)) (hj : i + 1 + k = s.size) (hff : fineB a b c d = true) (h32 : n ≤ 32) (hv : vld (jt (a % 256) (b % 256) (c % 256) (d % 256) 4) n = false) :
    Calls Try.prog 10 #[.string s] w fun e w' => e = .returned (prV (prR s.data.toList)) ∧ Below w.heap.size w w' := by
  have HS : Hid (s.size ≤ maxLen) := hs
  unfold maxLen at hs
  have hlen : s.data.toList.length = s.size := rfl
  have HQ : Hid (pq4 s.data.toList = some (a, b, c, d, i)) := hq
  have hi := pq4_le hq
  obtain ⟨x, hx⟩ : ∃ x, jt (a % 256) (b % 256) (c % 256) (d % 256) 4 = x := ⟨_, rfl⟩
  have HX : Hid (_ = _) := hx
  obtain ⟨f, hf⟩ : ∃ f, fineB a b c d = f := ⟨_, rfl⟩
  have HF : Hid (_ = _) := hf
  have h47 : s.data.toList[i]? = some 47 := by
    rw [byte_at s i he]; have : s[i] = 47 := by apply UInt8.toNat_inj.1; simp; omega
    rw [this]
  have t1 : ¬ (s.size : Int) ≤ (i : Int) := by omega
  have t0 : ¬ (i : Int) < 0 := by omega
  have t2 : ((s[i].toNat : Int) != 47) = false := by simpa using hd
  have HN : Hid (rnM (s.data.toList.drop (i + 1)) 2 = some (n, k)) := hn
  have hk := rnM_some (by omega) hn
  have h4 := hk.1
  have hk2 : k ≤ s.size - (i + 1) := by have := hk.2.1; simp only [List.length_drop] at this; omega
  have t3 : ((i : Int) + 1 + (k : Int) != (s.size : Int)) = false := by rw [bne_eq_false_iff_eq]; omega
  have hf2 : f = true := by rw [← hf, hff]
  subst hf2
  have hxb := jtm_bd a b c d
  have HG : Hid (prV (prR s.data.toList) = .tuple #[.agg #[.int .u32 0, .int .i64 0], .int .i64 3]) := by
    show _ = _; unfold prR; rw [hq]; simp only; rw [if_pos h47, hn]; simp only; rw [if_pos (by omega), if_pos ⟨hff, h32⟩, if_neg (by rw [hv]; simp)]; rfl
  rw [hx] at hxb hv
  have HV : Hid (vld x n = false) := hv
  have x0 := hxb.1
  have x1 := hxb.2
  clear hq hx hf hlen hi hd hn h47 hk hj hff hv hxb
  go_enter Try.func10, Try.ntmps10
  go_wp2_with (first | (go_at_call 21; refine (rquad_yes HQ.out HS.out true HF.out x HX.out _).mono ?_; rintro e w1 ⟨rfl, rfl⟩) | (go_at_call 24; refine (number_yes (i := i + 1) (most := 2) HN.out (by omega) (by omega) HS.out _).mono ?_; rintro e w1 ⟨rfl, rfl⟩))
  refine (rvalid_no x n HV.out x0 x1 _).mono ?_
  rintro e w3 ⟨rfl, hb3⟩
  obtain ⟨⟨v0, z0⟩, ⟨v1, z1⟩, g0, g1, hz⟩ := (Slot.first w _ _ _).bel hb3
  go_wp2_with fail
  exact bodyPost_ret (v := .tuple #[.agg #[.int .u32 0, .int .i64 0], .int .i64 3]) (by simp [results, Try.results10, go_sem, z0, z1]) rfl ⟨fin_eq HG.out, by repeat (first | exact Below.refl _ _ | refine Below.setCell ?_ (by simp) _ | refine below_drewN ?_ _ | refine Below.trans ?_ (Below.mono hb3 (by first | (simp; omega) | simp | omega)) | refine Below.alloc ?_ (by first | (simp; omega) | simp | omega) _)⟩

set_option maxHeartbeats 4000000 in
theorem rparse_y (s : ByteArray) (w : World) (hs : s.size ≤ maxLen) (a b c d : Int) (i : Nat) (hq : pq4 s.data.toList = some (a, b, c, d, i)) (he : i < s.size) (hd : (s[i].toNat : Int) = 47) (n : Int) (k : Nat) (hn : rnM (s.data.toList.drop (i + 1)) 2 = some (n, k)) (hj : i + 1 + k = s.size) (hff : fineB a b c d = true) (h32 : n ≤ 32) (hv : vld (jt (a % 256) (b % 256) (c % 256) (d % 256) 4) n = true) :
    Calls Try.prog 10 #[.string s] w fun e w' => e = .returned (prV (prR s.data.toList)) ∧ Below w.heap.size w w' := by
  have HS : Hid (s.size ≤ maxLen) := hs
  unfold maxLen at hs
  have hlen : s.data.toList.length = s.size := rfl
  have HQ : Hid (pq4 s.data.toList = some (a, b, c, d, i)) := hq
  have hi := pq4_le hq
  obtain ⟨x, hx⟩ : ∃ x, jt (a % 256) (b % 256) (c % 256) (d % 256) 4 = x := ⟨_, rfl⟩
  have HX : Hid (_ = _) := hx
  obtain ⟨f, hf⟩ : ∃ f, fineB a b c d = f := ⟨_, rfl⟩
  have HF : Hid (_ = _) := hf
  have h47 : s.data.toList[i]? = some 47 := by
    rw [byte_at s i he]; have : s[i] = 47 := by apply UInt8.toNat_inj.1; simp; omega
    rw [this]
  have t1 : ¬ (s.size : Int) ≤ (i : Int) := by omega
  have t0 : ¬ (i : Int) < 0 := by omega
  have t2 : ((s[i].toNat : Int) != 47) = false := by simpa using hd
  have HN : Hid (rnM (s.data.toList.drop (i + 1)) 2 = some (n, k)) := hn
  have hk := rnM_some (by omega) hn
  have h4 := hk.1
  have hk2 : k ≤ s.size - (i + 1) := by have := hk.2.1; simp only [List.length_drop] at this; omega
  have t3 : ((i : Int) + 1 + (k : Int) != (s.size : Int)) = false := by rw [bne_eq_false_iff_eq]; omega
  have hf2 : f = true := by rw [← hf, hff]
  subst hf2
  have hxb := jtm_bd a b c d
  have HG : Hid (prV (prR s.data.toList) = .tuple #[.agg #[.int .u32 x, .int .i64 n], .int .i64 0]) := by
    show _ = _; unfold prR; rw [hq]; simp only; rw [if_pos h47, hn]; simp only; rw [if_pos (by omega), if_pos ⟨hff, h32⟩, if_pos hv, hx]; rfl
  rw [hx] at hxb hv
  have HV : Hid (vld x n = true) := hv
  have x0 := hxb.1
  have x1 := hxb.2
  clear hq hx hf hlen hi hd hn h47 hk hj hff hv hxb
  go_enter Try.func10, Try.ntmps10
  go_wp2_with (first | (go_at_call 21; refine (rquad_yes HQ.out HS.out true HF.out x HX.out _).mono ?_; rintro e w1 ⟨rfl, rfl⟩) | (go_at_call 24; refine (number_yes (i := i + 1) (most := 2) HN.out (by omega) (by omega) HS.out _).mono ?_; rintro e w1 ⟨rfl, rfl⟩))
  refine (rvalid_yes x n HV.out x0 x1 _).mono ?_
  rintro e w3 ⟨rfl, hb3⟩
  obtain ⟨⟨v0, z0⟩, ⟨v1, z1⟩, g0, g1, hz⟩ := (Slot.first w _ _ _).bel hb3
  go_wp2_with fail
  exact bodyPost_ret (v := .tuple #[.agg #[.int .u32 x, .int .i64 n], .int .i64 0]) (by simp [results, Try.results10, go_sem, z0, z1]) rfl ⟨fin_eq HG.out, by repeat (first | exact Below.refl _ _ | refine Below.setCell ?_ (by simp) _ | refine below_drewN ?_ _ | refine Below.trans ?_ (Below.mono hb3 (by first | (simp; omega) | simp | omega)) | refine Below.alloc ?_ (by first | (simp; omega) | simp | omega) _)⟩

theorem rparse_any (s : ByteArray) (w : World) (hs : s.size ≤ maxLen) :
    Calls Try.prog 10 #[.string s] w fun e w' => e = .returned (prV (prR s.data.toList)) ∧ Below w.heap.size w w' := by
  cases hq : pq4 s.data.toList with
  | none => exact rparse_q s w hs hq
  | some y =>
    obtain ⟨a, b, c, d, i⟩ := y
    have hi := pq4_le hq
    have hlen : s.data.toList.length = s.size := rfl
    by_cases he : i = s.size
    · exact rparse_e s w hs a b c d i hq he
    · have he2 : i < s.size := by omega
      by_cases hd : (s[i].toNat : Int) = 47
      · cases hn : rnM (s.data.toList.drop (i + 1)) 2 with
        | none => exact rparse_n s w hs a b c d i hq he2 hd hn
        | some z =>
          obtain ⟨n, k⟩ := z
          by_cases hj : i + 1 + k = s.size
          · by_cases hff : fineB a b c d = true
            · by_cases h32 : n ≤ 32
              · by_cases hv : vld (jt (a % 256) (b % 256) (c % 256) (d % 256) 4) n = true
                · exact rparse_y s w hs a b c d i hq he2 hd n k hn hj hff h32 hv
                · exact rparse_v s w hs a b c d i hq he2 hd n k hn hj hff h32 (by simpa using hv)
              · exact rparse_g s w hs a b c d i hq he2 hd n k hn hj hff (by omega)
            · exact rparse_f s w hs a b c d i hq he2 hd n k hn hj (by simpa using hff)
          · exact rparse_j s w hs a b c d i hq he2 hd n k hn hj
      · exact rparse_s s w hs a b c d i hq he2 hd
end Go.Proofs.Ythibebjighjlaaa.Rd
