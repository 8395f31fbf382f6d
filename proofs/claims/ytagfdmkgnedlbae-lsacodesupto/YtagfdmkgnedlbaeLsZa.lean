/- What is written is read as it was, and what is read is written as it came: plain. -/
import Derived.Test.YtagfdmkgnedlbaeLsZ
namespace Go.Proofs.Ytagfdmkgnedlbae.Ls
open Go.Proofs.Ytagfdmkgnedlbae.PM
set_option linter.unusedVariables false

theorem big_succ (k n : Nat) : big (k + 1) n = big k (n / 256) ++ [n % 256] := by
  unfold big
  rw [List.range_succ, List.map_append]
  congr 1
  · apply List.map_congr_left
    intro i hi
    have hi2 : i < k := List.mem_range.1 hi
    rw [show 8 * (k + 1 - 1 - i) = 8 + 8 * (k - 1 - i) by omega, Nat.pow_add, ← Nat.div_div_eq_div_mul]
  · simp
theorem num_big : ∀ (k n : Nat), n < 256 ^ k → num (big k n) = n
  | 0, n, h => by
    have : n = 0 := by simpa using h
    subst this
    rfl
  | k + 1, n, h => by
    rw [Nat.pow_succ] at h
    rw [big_succ, num_snoc, num_big k (n / 256) (by omega)]
    omega
theorem big_num : ∀ (k : Nat) (bs : List Nat), bs.length = k → (∀ d ∈ bs, d < 256) → big k (num bs) = bs
  | 0, bs, h, _ => by rw [List.length_eq_zero_iff.1 h]; rfl
  | k + 1, bs, h, hu => by
    obtain ⟨cs, c, rfl⟩ : ∃ cs c, bs = cs ++ [c] := by
      rcases List.eq_nil_or_concat bs with e | ⟨cs, c, e⟩
      · rw [e] at h; cases h
      · exact ⟨cs, c, by simpa using e⟩
    have hc : c < 256 := hu c (by simp)
    have hl : cs.length = k := by simpa using h
    rw [num_snoc, big_succ, show (num cs * 256 + c) / 256 = num cs by omega, show (num cs * 256 + c) % 256 = c by omega, big_num k cs hl (fun d hd => hu d (by simp [hd]))]
theorem rdV_big {k n : Nat} (h : n < 256 ^ k) (rest : List Nat) (s : Bool) : rdV k (big k n ++ rest, s) = n := by
  unfold rdV
  rw [if_pos (by simp [big_len]), List.take_left' (big_len k n), num_big k n h]
theorem rdR_big (k n : Nat) (rest : List Nat) (s : Bool) : rdR k (big k n ++ rest, s) = (rest, s) := by
  unfold rdR
  rw [if_pos (by simp [big_len]), List.drop_left' (big_len k n)]
theorem Nt.p {n : Int} {k : Nat} (h : Nt n (8 * k)) : n.toNat < 256 ^ k := by
  have h1 := h.2
  have h0 := h.1
  have e : (256 : Nat) ^ k = 2 ^ (8 * k) := by rw [Nat.pow_mul]
  have e2 : ((2 ^ (8 * k) : Nat) : Int) = 2 ^ (8 * k) := by simp
  rw [e]
  omega
theorem rdVI {k : Nat} {n : Int} (h : Nt n (8 * k)) (rest : List Nat) (s : Bool) : ((rdV k (big k n.toNat ++ rest, s) : Nat) : Int) = n := by rw [rdV_big h.p, h.cast]
theorem decLk_enc {l : Int × Int × Int} (h : Nt l.1 32 ∧ Nt l.2.1 16 ∧ Nt l.2.2 16) (rest : List Nat) (s : Bool) : decLk (encLk l ++ rest, s) = (l, (rest, s)) := by
  obtain ⟨a, b, c⟩ := l
  unfold decLk encLk
  simp only [List.append_assoc, rdR_big]
  rw [rdVI (k := 4) h.1, rdVI (k := 2) h.2.1, rdVI (k := 2) h.2.2]
theorem decSt_enc {l : Int × Int × Int} (h : Nt l.1 32 ∧ Nt l.2.1 8 ∧ Nt l.2.2 16) (rest : List Nat) (s : Bool) : decSt (encSt l ++ rest, s) = (l, (rest, s)) := by
  obtain ⟨a, b, c⟩ := l
  unfold decSt encSt
  simp only [List.append_assoc, rdR_big]
  rw [rdVI (k := 4) h.1, rdVI (k := 1) h.2.1, rdVI (k := 2) h.2.2]
theorem decN_enc {α : Type} {f : Rst → α × Rst} {g : α → List Nat} : ∀ (xs : List α), (∀ x ∈ xs, ∀ rest s, f (g x ++ rest, s) = (x, (rest, s))) → ∀ rest s, decN f xs.length (xs.flatMap g ++ rest, s) = (xs, (rest, s))
  | [], _, rest, s => rfl
  | x :: xs, h, rest, s => by
    rw [List.length_cons, List.flatMap_cons, List.append_assoc]
    unfold decN
    rw [h x (by simp), decN_enc xs (fun y hy => h y (by simp [hy]))]
theorem decL_enc {x : Lsa} (h : Fits x) (rest : List Nat) (s : Bool) : decL (encL x ++ rest, s) = (x, (rest, s)) := by
  have hnl := h.nl
  have hns := h.ns
  have v1 : ∀ rest s, rdV 1 (big 1 x.links.length ++ rest, s) = x.links.length := fun rest s => rdV_big (by omega) rest s
  have v2 : ∀ rest s, rdV 1 (big 1 x.stubs.length ++ rest, s) = x.stubs.length := fun rest s => rdV_big (by omega) rest s
  unfold decL encL encHd
  simp only [List.append_assoc, hdR, rdR_big, v1, v2]
  rw [decN_enc x.links (fun l hl rest s => decLk_enc (h.lk l hl) rest s)]
  dsimp only
  rw [decN_enc x.stubs (fun l hl rest s => decSt_enc (h.st l hl) rest s)]
  rw [rdVI (k := 1) h.kind, rdVI (k := 2) h.area, rdVI (k := 4) h.origin, rdVI (k := 4) h.pa, rdVI (k := 1) h.pn, rdVI (k := 4) h.seq, rdVI (k := 2) h.age, rdVI (k := 4) h.cost, rdVI (k := 4) h.tag]
theorem encBody_len (p : Pk) : (encBody p).length = 16 + (p.xs.flatMap encL).length := by
  unfold encBody
  simp only [List.length_append, big_len]
/-- what is written is read as it was -/
theorem dec_enc {p : Pk} {bs : List Nat} (h : encP p = (bs, 0)) (hf : ∀ x ∈ p.xs, Fits x) : decP bs = (p, 0) ∧ bs.length = bytesOf 20 p.xs ∧ bs.length ≤ 4096 := by
  unfold encP at h
  split at h
  · cases h
  · rename_i hk
    split at h
    · cases h
    · rename_i hr
      split at h
      · cases h
      · rename_i h40
        injection h with h1 h2
        clear h2
        subst h1
        obtain ⟨EB, hEB⟩ : ∃ b, encBody p = b := ⟨_, rfl⟩
        obtain ⟨cc, hcc⟩ : ∃ c, crc 4294967295 EB = c := ⟨_, rfl⟩
        have hcl : cc < 4294967296 := by rw [← hcc]; exact crc_lt _ _ (by decide)
        have hbl : EB.length + 4 = bytesOf 20 p.xs := by rw [← hEB, encBody_len, bytesOf_flat]; omega
        have hE16 : 16 ≤ EB.length := by rw [← hEB, encBody_len]; omega
        rw [hEB, hcc]
        have hlen : (EB ++ big 4 cc).length = EB.length + 4 := by simp [big_len]
        have hK : isK p.kind = true := by simpa using hk
        have hR : rangeP p.kind p.frm p.area p.seen p.xs = true := by simpa using hr
        obtain ⟨r1, r2, r3, r4, r5⟩ := range_of hR
        have hk3 : p.kind = 1 ∨ p.kind = 2 ∨ p.kind = 3 := by unfold isK at hK; simpa using hK
        have e2 : EB.take 2 = big 2 22342 := by
          rw [← hEB]; unfold encBody
          simp only [List.append_assoc]
          exact List.take_left' (big_len 2 _)
        have e4 : (EB.drop 4).take 2 = big 2 (bytesOf 20 p.xs) := by
          rw [← hEB]; unfold encBody
          rw [show ∀ A B C D E F G H : List Nat, A ++ B ++ C ++ D ++ E ++ F ++ G ++ H = (A ++ B ++ C) ++ (D ++ (E ++ (F ++ (G ++ H)))) by intros; simp only [List.append_assoc]]
          rw [List.drop_left' (by simp [big_len]), List.take_left' (big_len 2 _)]
        refine ⟨?_, by rw [hlen]; exact hbl, by rw [hlen]; omega⟩
        have hfr : frameE (EB ++ big 4 cc) = 0 := by
          unfold frameE
          rw [hlen, if_neg (by omega), if_neg (by omega), if_neg, if_neg]
          · rw [show EB.length + 4 - 4 = EB.length by omega, List.drop_left, List.take_left, num_big 4 cc (by omega), hcc]
            simp
          · rw [List.take_append_of_le_length (by omega), e2, List.drop_append_of_le_length (by omega), List.take_append_of_le_length (by rw [List.length_drop]; omega), e4, num_big 2 _ (by omega), num_big 2 _ (by omega)]
            simp
            omega
        unfold decP
        rw [if_pos hfr, hlen, show EB.length + 4 - 4 = EB.length by omega, List.take_left, ← hEB]
        have v2 : ∀ rest s, rdV 1 (big 1 p.xs.length ++ rest, s) = p.xs.length := fun rest s => rdV_big (by omega) rest s
        unfold decB encBody
        simp only [List.append_assoc, hdR, rdR_big, v2]
        rw [rdVI (k := 1) (nt8 (by omega) (by omega)), rdVI (k := 4) (nt32 (by omega) (by omega)), rdVI (k := 2) (nt16 (by omega) (by omega)), rdVI (k := 4) (nt32 (by omega) (by omega))]
        have hdn := decN_enc p.xs (fun x hx rest s => decL_enc (hf x hx) rest s) [] false
        rw [List.append_nil] at hdn
        rw [hdn]
        simp [hK, hR]
/-- a number that did not fall short -/
theorem rd_back {n : Nat} {r : Rst} (hu : ∀ d ∈ r.1, d < 256) (h : (rdR n r).2 = false) : r.2 = false ∧ r.1 = big n (rdV n r) ++ (rdR n r).1 ∧ (∀ d ∈ (rdR n r).1, d < 256) := by
  unfold rdR at h ⊢
  unfold rdV
  split at h
  · rename_i hle
    rw [if_pos hle, if_pos hle]
    refine ⟨h, ?_, fun d hd => hu d (List.mem_of_mem_drop hd)⟩
    rw [big_num n (r.1.take n) (by rw [List.length_take]; omega) (fun d hd => hu d (List.mem_of_mem_take hd)), List.take_append_drop]
  · cases h
structure Back {α : Type} (g : α → List Nat) (r : Rst) (y : α × Rst) : Prop where
  sh : r.2 = false
  eq : r.1 = g y.1 ++ y.2.1
  u8 : ∀ d ∈ y.2.1, d < 256
theorem decLk_back {r : Rst} (hu : ∀ d ∈ r.1, d < 256) (h : (decLk r).2.2 = false) : Back encLk r (decLk r) := by
  unfold decLk at h ⊢
  dsimp only at h ⊢
  have mono : ∀ {n : Nat} {r : Rst}, (rdR n r).2 = false → r.2 = false := fun {n} {r} h => by
    unfold rdR at h
    split at h
    · exact h
    · cases h
  have u : ∀ {n : Nat} {r : Rst}, (∀ d ∈ r.1, d < 256) → ∀ d ∈ (rdR n r).1, d < 256 := fun {n} {r1} h1 d hd => by
    unfold rdR at hd
    split at hd
    · exact h1 d (List.mem_of_mem_drop hd)
    · cases hd
  have h2 := mono h
  have h1 := mono h2
  obtain ⟨a1, a2, a3⟩ := rd_back hu h1
  obtain ⟨b1, b2, b3⟩ := rd_back a3 h2
  obtain ⟨c1, c2, c3⟩ := rd_back b3 h
  refine ⟨a1, ?_, c3⟩
  unfold encLk
  simp only [Int.toNat_natCast, List.append_assoc]
  rw [← c2, ← b2, ← a2]
theorem decSt_back {r : Rst} (hu : ∀ d ∈ r.1, d < 256) (h : (decSt r).2.2 = false) : Back encSt r (decSt r) := by
  unfold decSt at h ⊢
  dsimp only at h ⊢
  have mono : ∀ {n : Nat} {r : Rst}, (rdR n r).2 = false → r.2 = false := fun {n} {r} h => by
    unfold rdR at h
    split at h
    · exact h
    · cases h
  have h2 := mono h
  have h1 := mono h2
  obtain ⟨a1, a2, a3⟩ := rd_back hu h1
  obtain ⟨b1, b2, b3⟩ := rd_back a3 h2
  obtain ⟨c1, c2, c3⟩ := rd_back b3 h
  refine ⟨a1, ?_, c3⟩
  unfold encSt
  simp only [Int.toNat_natCast, List.append_assoc]
  rw [← c2, ← b2, ← a2]
theorem decN_short {α : Type} {f : Rst → α × Rst} (hm : ∀ r, (f r).2.2 = false → r.2 = false) : ∀ (n : Nat) (r : Rst), (decN f n r).2.2 = false → r.2 = false
  | 0, r, h => h
  | n + 1, r, h => hm r (decN_short hm n _ h)
theorem decN_back {α : Type} {f : Rst → α × Rst} {g : α → List Nat} (hm : ∀ r, (f r).2.2 = false → r.2 = false) (hf : ∀ r : Rst, (∀ d ∈ r.1, d < 256) → (f r).2.2 = false → Back g r (f r)) : ∀ (n : Nat) (r : Rst), (∀ d ∈ r.1, d < 256) → (decN f n r).2.2 = false → (decN f n r).1.length = n ∧ Back (fun xs : List α => xs.flatMap g) r (decN f n r)
  | 0, r, hu, h => ⟨rfl, h, rfl, hu⟩
  | n + 1, r, hu, h => by
    have h1 := decN_short hm n _ h
    have b := hf r hu h1
    obtain ⟨l, c⟩ := decN_back hm hf n (f r).2 b.u8 h
    refine ⟨by show (_ :: _).length = _; rw [List.length_cons, l], b.sh, ?_, c.u8⟩
    show r.1 = ((f r).1 :: (decN f n (f r).2).1).flatMap g ++ (decN f n (f r).2).2.1
    rw [List.flatMap_cons, List.append_assoc, ← c.eq, ← b.eq]
theorem rdR_mono {n : Nat} {r : Rst} (h : (rdR n r).2 = false) : r.2 = false := by
  unfold rdR at h
  split at h
  · exact h
  · cases h
theorem decLk_mono (r : Rst) (h : (decLk r).2.2 = false) : r.2 = false := rdR_mono (rdR_mono (rdR_mono h))
theorem decSt_mono (r : Rst) (h : (decSt r).2.2 = false) : r.2 = false := rdR_mono (rdR_mono (rdR_mono h))
theorem decL_mono (r : Rst) (h : (decL r).2.2 = false) : r.2 = false := by
  have h1 := decN_short decSt_mono _ _ h
  have h2 := decN_short decLk_mono _ _ h1
  simp only [hdR] at h2
  iterate 11 have h2 := rdR_mono h2
  exact h2
theorem decL_back {r : Rst} (hu : ∀ d ∈ r.1, d < 256) (h : (decL r).2.2 = false) : Back encL r (decL r) := by
  have h1 := decN_short decSt_mono _ _ h
  have h2 := decN_short decLk_mono _ _ h1
  obtain ⟨r1, q1⟩ : ∃ r1, rdR 1 r = r1 := ⟨_, rfl⟩
  obtain ⟨r2, q2⟩ : ∃ r2, rdR 1 r1 = r2 := ⟨_, rfl⟩
  obtain ⟨r3, q3⟩ : ∃ r3, rdR 1 r2 = r3 := ⟨_, rfl⟩
  obtain ⟨r4, q4⟩ : ∃ r2, rdR 1 r3 = r2 := ⟨_, rfl⟩
  obtain ⟨r5, q5⟩ : ∃ r2, rdR 2 r4 = r2 := ⟨_, rfl⟩
  obtain ⟨r6, q6⟩ : ∃ r2, rdR 2 r5 = r2 := ⟨_, rfl⟩
  obtain ⟨r7, q7⟩ : ∃ r2, rdR 4 r6 = r2 := ⟨_, rfl⟩
  obtain ⟨r8, q8⟩ : ∃ r2, rdR 4 r7 = r2 := ⟨_, rfl⟩
  obtain ⟨r9, q9⟩ : ∃ r2, rdR 4 r8 = r2 := ⟨_, rfl⟩
  obtain ⟨r10, q10⟩ : ∃ r2, rdR 4 r9 = r2 := ⟨_, rfl⟩
  obtain ⟨r11, q11⟩ : ∃ r2, rdR 4 r10 = r2 := ⟨_, rfl⟩
  unfold decL at h h1 h2 ⊢
  simp only [hdR, q1, q2, q3, q4, q5, q6, q7, q8, q9, q10, q11] at h h1 h2 ⊢
  have f10 := rdR_mono (q11 ▸ h2 : (rdR 4 r10).2 = false)
  have f9 := rdR_mono (q10 ▸ f10 : (rdR 4 r9).2 = false)
  have f8 := rdR_mono (q9 ▸ f9 : (rdR 4 r8).2 = false)
  have f7 := rdR_mono (q8 ▸ f8 : (rdR 4 r7).2 = false)
  have f6 := rdR_mono (q7 ▸ f7 : (rdR 4 r6).2 = false)
  have f5 := rdR_mono (q6 ▸ f6 : (rdR 2 r5).2 = false)
  have f4 := rdR_mono (q5 ▸ f5 : (rdR 2 r4).2 = false)
  have f3 := rdR_mono (q4 ▸ f4 : (rdR 1 r3).2 = false)
  have f2 := rdR_mono (q3 ▸ f3 : (rdR 1 r2).2 = false)
  have f1 := rdR_mono (q2 ▸ f2 : (rdR 1 r1).2 = false)
  have f0 := rdR_mono (q1 ▸ f1 : (rdR 1 r).2 = false)
  have a0 := rd_back (n := 1) hu (q1 ▸ f1)
  rw [q1] at a0
  have a1 := rd_back (n := 1) a0.2.2 (q2 ▸ f2)
  rw [q2] at a1
  have a2 := rd_back (n := 1) a1.2.2 (q3 ▸ f3)
  rw [q3] at a2
  have a3 := rd_back (n := 1) a2.2.2 (q4 ▸ f4)
  rw [q4] at a3
  have a4 := rd_back (n := 2) a3.2.2 (q5 ▸ f5)
  rw [q5] at a4
  have a5 := rd_back (n := 2) a4.2.2 (q6 ▸ f6)
  rw [q6] at a5
  have a6 := rd_back (n := 4) a5.2.2 (q7 ▸ f7)
  rw [q7] at a6
  have a7 := rd_back (n := 4) a6.2.2 (q8 ▸ f8)
  rw [q8] at a7
  have a8 := rd_back (n := 4) a7.2.2 (q9 ▸ f9)
  rw [q9] at a8
  have a9 := rd_back (n := 4) a8.2.2 (q10 ▸ f10)
  rw [q10] at a9
  have a10 := rd_back (n := 4) a9.2.2 (q11 ▸ h2)
  rw [q11] at a10
  obtain ⟨l1, b1⟩ := decN_back decLk_mono (fun r hu h => decLk_back hu h) (rdV 1 r1) r11 a10.2.2 h1
  obtain ⟨l2, b2⟩ := decN_back decSt_mono (fun r hu h => decSt_back hu h) (rdV 1 r2) _ b1.u8 h
  refine ⟨f0, ?_, b2.u8⟩
  unfold encL encHd
  dsimp only
  rw [l1, l2]
  simp only [Int.toNat_natCast, List.append_assoc]
  rw [← b2.eq, ← b1.eq, ← a10.2.1, ← a9.2.1, ← a8.2.1, ← a7.2.1, ← a6.2.1, ← a5.2.1, ← a4.2.1, ← a3.2.1, ← a2.2.1, ← a1.2.1, ← a0.2.1]
/-- what is read is written as it came -/
theorem enc_dec {p : Pk} {bs : List Nat} (hu : ∀ d ∈ bs, d < 256) (h : decP bs = (p, 0)) : encP p = (bs, 0) := by
  unfold decP at h
  split at h
  case isFalse hne => injection h with h1 h2; exact absurd h2 hne
  case isTrue hfr =>
    obtain ⟨hl20, hl40⟩ := frame_len hfr
    unfold frameE at hfr
    rw [if_neg (by omega), if_neg (by omega)] at hfr
    split at hfr
    · cases hfr
    · rename_i hm
      split at hfr
      · cases hfr
      · rename_i hc
        clear hfr
        have hm1 : num (bs.take 2) = 22342 := by
          by_cases e : num (bs.take 2) = 22342
          · exact e
          · exact absurd (Or.inl e) hm
        have hm2 : num ((bs.drop 4).take 2) = bs.length := by
          by_cases e : num ((bs.drop 4).take 2) = bs.length
          · exact e
          · exact absurd (Or.inr e) hm
        have hc1 : num (bs.drop (bs.length - 4)) = crc 4294967295 (bs.take (bs.length - 4)) := by
          by_cases e : num (bs.drop (bs.length - 4)) = crc 4294967295 (bs.take (bs.length - 4))
          · exact e
          · exact absurd e hc
        obtain ⟨body, hbody⟩ : ∃ b, bs.take (bs.length - 4) = b := ⟨_, rfl⟩
        have hbl : body.length = bs.length - 4 := by rw [← hbody, List.length_take]; omega
        have hbs : bs = body ++ big 4 (crc 4294967295 body) := by
          rw [← hbody, ← hc1, big_num 4 _ (by rw [List.length_drop]; omega) (fun d hd => hu d (List.mem_of_mem_drop hd)), List.take_append_drop]
        have hub : ∀ d ∈ body, d < 256 := fun d hd => hu d (by rw [← hbody] at hd; exact List.mem_of_mem_take hd)
        have hb2 : num (body.take 2) = 22342 := by rw [← hbody, List.take_take, show min 2 (bs.length - 4) = 2 by omega]; exact hm1
        have hb4 : num ((body.drop 4).take 2) = bs.length := by
          rw [← hbody, List.drop_take, List.take_take, show min 2 (bs.length - 4 - 4) = 2 by omega]; exact hm2
        rw [hbody] at h
        unfold decB at h
        simp only [hdR] at h
        obtain ⟨r1, q1⟩ : ∃ r1, rdR 2 (body, false) = r1 := ⟨_, rfl⟩
        obtain ⟨r2, q2⟩ : ∃ r2, rdR 1 r1 = r2 := ⟨_, rfl⟩
        obtain ⟨r3, q3⟩ : ∃ r3, rdR 1 r2 = r3 := ⟨_, rfl⟩
        obtain ⟨r4, q4⟩ : ∃ r2, rdR 2 r3 = r2 := ⟨_, rfl⟩
        obtain ⟨r5, q5⟩ : ∃ r2, rdR 2 r4 = r2 := ⟨_, rfl⟩
        obtain ⟨r6, q6⟩ : ∃ r2, rdR 4 r5 = r2 := ⟨_, rfl⟩
        obtain ⟨r7, q7⟩ : ∃ r2, rdR 4 r6 = r2 := ⟨_, rfl⟩
        simp only [q1, q2, q3, q4, q5, q6, q7] at h
        split at h
        · injection h with h1 h2; cases h2
        · rename_i hk
          split at h
          · injection h with h1 h2; cases h2
          · rename_i hs
            split at h
            · injection h with h1 h2; cases h2
            · rename_i hr
              injection h with h1 h2
              clear h2
              obtain ⟨A, hA⟩ : ∃ A, decN decL (rdV 1 r2) r7 = A := ⟨_, rfl⟩
              rw [hA] at hs hr h1
              have hsh : A.2.2 = false := by
                cases e : A.2.2 with
                | false => rfl
                | true => exact absurd (Or.inl e) hs
              have hre : A.2.1 = [] := by
                cases e : A.2.1 with
                | nil => rfl
                | cons a l => exact absurd (Or.inr (by rw [e]; simp)) hs
              have f7 := decN_short decL_mono _ _ (hA ▸ hsh : (decN decL (rdV 1 r2) r7).2.2 = false)
              have f6 := rdR_mono (q7 ▸ f7 : (rdR 4 r6).2 = false)
              have f5 := rdR_mono (q6 ▸ f6 : (rdR 4 r5).2 = false)
              have f4 := rdR_mono (q5 ▸ f5 : (rdR 2 r4).2 = false)
              have f3 := rdR_mono (q4 ▸ f4 : (rdR 2 r3).2 = false)
              have f2 := rdR_mono (q3 ▸ f3 : (rdR 1 r2).2 = false)
              have f1 := rdR_mono (q2 ▸ f2 : (rdR 1 r1).2 = false)
              have a0 := rd_back (n := 2) (r := (body, false)) hub (q1 ▸ f1)
              have v0 : rdV 2 (body, false) = 22342 := by rw [rdV_of (by show 2 ≤ body.length; omega)]; exact hb2
              rw [q1, v0] at a0
              have a1 := rd_back (n := 1) a0.2.2 (q2 ▸ f2)
              rw [q2] at a1
              have a2 := rd_back (n := 1) a1.2.2 (q3 ▸ f3)
              rw [q3] at a2
              have e3 : r3.1 = body.drop 4 := by
                have h3 : body = big 2 22342 ++ (big 1 (rdV 1 r1) ++ (big 1 (rdV 1 r2) ++ r3.1)) := by rw [← a2.2.1, ← a1.2.1]; exact a0.2.1
                have h4 : body.drop 4 = ((big 2 22342 ++ big 1 (rdV 1 r1) ++ big 1 (rdV 1 r2)) ++ r3.1).drop 4 := by
                  rw [List.append_assoc, List.append_assoc, ← h3]
                rw [h4, List.drop_left' (by simp [big_len])]
              have a3 := rd_back (n := 2) a2.2.2 (q4 ▸ f4)
              have v3 : rdV 2 r3 = bs.length := by
                rw [rdV_of (by rw [e3, List.length_drop]; omega), e3]; exact hb4
              rw [q4, v3] at a3
              have a4 := rd_back (n := 2) a3.2.2 (q5 ▸ f5)
              rw [q5] at a4
              have a5 := rd_back (n := 4) a4.2.2 (q6 ▸ f6)
              rw [q6] at a5
              have a6 := rd_back (n := 4) a5.2.2 (q7 ▸ f7)
              rw [q7] at a6
              obtain ⟨l1, b1⟩ := decN_back decL_mono (fun r hu h => decL_back hu h) (rdV 1 r2) r7 a6.2.2 (hA ▸ hsh)
              rw [hA] at l1 b1
              have hflat : r7.1 = A.1.flatMap encL := by
                have := b1.eq
                rw [hre, List.append_nil] at this
                exact this
              have hsz : bytesOf 20 A.1 = bs.length := by
                rw [bytesOf_flat, ← hflat]
                have t0 := congrArg List.length a0.2.1
                have t1 := congrArg List.length a1.2.1
                have t2 := congrArg List.length a2.2.1
                have t3 := congrArg List.length a3.2.1
                have t4 := congrArg List.length a4.2.1
                have t5 := congrArg List.length a5.2.1
                have t6 := congrArg List.length a6.2.1
                simp only [List.length_append, big_len] at t0 t1 t2 t3 t4 t5 t6
                omega
              subst h1
              have hb : encBody ⟨((rdV 1 r1 : Nat) : Int), ((rdV 4 r5 : Nat) : Int), ((rdV 2 r4 : Nat) : Int), ((rdV 4 r6 : Nat) : Int), A.1⟩ = body := by
                unfold encBody
                dsimp only
                rw [hsz, l1]
                simp only [Int.toNat_natCast, List.append_assoc]
                rw [← hflat, ← a6.2.1, ← a5.2.1, ← a4.2.1, ← a3.2.1, ← a2.2.1, ← a1.2.1, ← a0.2.1]
              unfold encP
              rw [hb, ← hbs]
              dsimp only
              rw [if_neg hk, if_neg hr, if_neg (by rw [hsz]; omega)]
end Go.Proofs.Ytagfdmkgnedlbae.Ls
