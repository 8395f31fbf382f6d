/- Reading a message, in plain words. -/
import Derived.Test.YtanboekdfdafmaaPwA
namespace Go.Proofs.Ytanboekdfdafmaa.Pv
open Go.Proofs.Ytanboekdfdafmaa.PM
set_option linter.unusedVariables false

/-- so many bytes, and what is left -/
def rd (k : Nat) (r : List Nat) : Option (List Nat × List Nat) := if k ≤ r.length then some (r.take k, r.drop k) else none
theorem rd_yes {k : Nat} {r : List Nat} (h : k ≤ r.length) : rd k r = some (r.take k, r.drop k) := if_pos h
theorem rd_no {k : Nat} {r : List Nat} (h : ¬ k ≤ r.length) : rd k r = none := if_neg h
/-- a piece: its length in two bytes, and it -/
def rpiece (r : List Nat) : Option (List Nat × List Nat) :=
  match rd 2 r with
  | none => none
  | some (h, r1) => rd (num h) r1
/-- numbers of four bytes -/
def wd (bs : List Nat) (i : Nat) : Int := (num ((bs.drop (4 * i)).take 4) : Nat)
def wds (bs : List Nat) (n : Nat) : List Int := (List.range n).map (wd bs)
def rwords (bs : List Nat) : Option (List Int) := if bs.length % 4 = 0 then some (wds bs (bs.length / 4)) else none
theorem wds_len (bs : List Nat) (n : Nat) : (wds bs n).length = n := by simp [wds]
theorem wds_snoc (bs : List Nat) (n : Nat) : wds bs (n + 1) = wds bs n ++ [wd bs n] := by simp [wds, List.range_succ]
/-- a prefix -/
def pfV (q z t : Nat) : Int × Int := (((q * 2 ^ (32 - 8 * z) : Nat) : Int), (t : Int))
def rpfx (r : List Nat) : Option ((Int × Int) × List Nat) :=
  match rd 1 r with
  | none => none
  | some (h, r1) =>
    if 32 < num h then none
    else match rd (bsz (num h)) r1 with
      | none => none
      | some (a, r2) => some (pfV (num a) (bsz (num h)) (num h), r2)
theorem rpfx_nil {r : List Nat} (h : ¬ 1 ≤ r.length) : rpfx r = none := by unfold rpfx; rw [rd_no h]
theorem rpfx_big {r : List Nat} {t : Nat} (h : 1 ≤ r.length) (ht : num (r.take 1) = t) (h32 : 32 < t) : rpfx r = none := by subst ht; unfold rpfx; rw [rd_yes h]; dsimp only; rw [if_pos h32]
theorem rpfx_short {r : List Nat} {t z : Nat} (h : 1 ≤ r.length) (ht : num (r.take 1) = t) (h32 : ¬ 32 < t) (hz : bsz t = z) (hn : ¬ z ≤ (r.drop 1).length) : rpfx r = none := by subst hz; subst ht; unfold rpfx; rw [rd_yes h]; dsimp only; rw [if_neg h32, rd_no hn]
theorem rpfx_ok {r : List Nat} {t z q : Nat} (h : 1 ≤ r.length) (ht : num (r.take 1) = t) (h32 : ¬ 32 < t) (hz : bsz t = z) (hn : z ≤ (r.drop 1).length) (hq : num ((r.drop 1).take z) = q) : rpfx r = some (pfV q z t, (r.drop 1).drop z) := by subst hq; subst hz; subst ht; unfold rpfx; rw [rd_yes h]; dsimp only; rw [if_neg h32, rd_yes hn]
def rpfxs : Nat → List Nat → Option (List (Int × Int))
  | 0, r => if r.length = 0 then some [] else none
  | n + 1, r => if r.length = 0 then some [] else
    match rpfx r with
    | none => none
    | some (p, r2) => match rpfxs n r2 with
      | none => none
      | some l => some (p :: l)
def pfxsR (r : List Nat) : Option (List (Int × Int)) := rpfxs r.length r
theorem rpfx_lt {r r2 : List Nat} {p : Int × Int} (h : rpfx r = some (p, r2)) : r2.length < r.length := by
  unfold rpfx at h
  split at h
  · cases h
  · rename_i h1 r1 e1
    unfold rd at e1
    split at e1
    · cases e1
      split at h
      · cases h
      · split at h
        · cases h
        · rename_i a r3 e2
          cases h
          unfold rd at e2
          split at e2
          · cases e2
            simp
            omega
          · cases e2
    · cases e1
theorem rpfxs_more : ∀ (n k : Nat) (r : List Nat), r.length ≤ n → rpfxs (n + k) r = rpfxs n r
  | 0, k, r, h => by
    have h0 : r.length = 0 := by omega
    cases k with
    | zero => rfl
    | succ k => rw [Nat.zero_add]; unfold rpfxs; rw [if_pos h0, if_pos h0]
  | n + 1, k, r, h => by
    rw [show n + 1 + k = (n + k) + 1 by omega]
    unfold rpfxs
    by_cases h0 : r.length = 0
    · rw [if_pos h0, if_pos h0]
    · rw [if_neg h0, if_neg h0]
      cases e : rpfx r with
      | none => rfl
      | some q =>
        obtain ⟨p, r2⟩ := q
        dsimp only
        have h2 := rpfx_lt e
        rw [rpfxs_more n k r2 (by omega)]
theorem pfxsR_nil : pfxsR [] = some [] := rfl
theorem pfxsR_cons {r : List Nat} (h0 : 0 < r.length) : pfxsR r = match rpfx r with
    | none => none
    | some (p, r2) => match pfxsR r2 with
      | none => none
      | some l => some (p :: l) := by
  unfold pfxsR
  obtain ⟨n, hn⟩ : ∃ n, r.length = n + 1 := ⟨r.length - 1, by omega⟩
  rw [hn, rpfxs, if_neg (by omega)]
  cases e : rpfx r with
  | none => rfl
  | some q =>
    obtain ⟨p, r2⟩ := q
    dsimp only
    have h2 := rpfx_lt e
    rw [show n = r2.length + (n - r2.length) by omega, rpfxs_more _ _ _ (Nat.le_refl _)]
/-- an attribute's value -/
def setA (t : Rt) (kind : Nat) (v : List Nat) : Option Rt :=
  if kind = 1 then (rd 1 v).map (fun q => { t with org := (num q.1 : Nat) })
  else if kind = 2 then (rwords v).map (fun q => { t with path := q })
  else if kind = 3 then (rd 4 v).map (fun q => { t with next := (num q.1 : Nat) })
  else if kind = 4 then (rd 4 v).map (fun q => { t with med := (num q.1 : Nat) })
  else if kind = 5 then (rd 4 v).map (fun q => { t with pref := (num q.1 : Nat) })
  else if kind = 6 then (rwords v).map (fun q => { t with marks := q })
  else if kind = 7 then (rd 4 v).map (fun q => { t with auth := (num q.1 : Nat) })
  else if kind = 8 then (rwords v).map (fun q => { t with clus := q })
  else none
def passed (kind : Nat) : Bool := wi kind 128 191
/-- attributes: what they tell, and how many bytes stand behind the last one that is not passed over -/
def rattrs : Nat → Nat → Rt → Nat → List Nat → Option (Rt × Nat)
  | 0, last, t, kn, r => if r.length = 0 then some (t, kn) else none
  | n + 1, last, t, kn, r => if r.length = 0 then some (t, kn) else
    match rd 1 r with
    | none => none
    | some (h, r1) => match rpiece r1 with
      | none => none
      | some (v, r2) =>
        if num h ≤ last then none
        else if passed (num h) then rattrs n (num h) t kn r2
        else match setA t (num h) v with
          | none => none
          | some t2 => rattrs n (num h) t2 r2.length r2
def rtZ : Rt := ⟨0, 0, [], 0, 0, 0, 0, [], [], 0⟩
def ms0 : Ms := ⟨0, 0, 0, 0, 0, [], [], rtZ⟩
def attrsR (last : Nat) (t : Rt) (kn : Nat) (r : List Nat) : Option (Rt × Nat) := rattrs r.length last t kn r
theorem rd_len {k : Nat} {r a b : List Nat} (h : rd k r = some (a, b)) : k ≤ r.length ∧ a = r.take k ∧ b = r.drop k := by
  unfold rd at h
  split at h
  · cases h; exact ⟨by assumption, rfl, rfl⟩
  · cases h
theorem rpiece_len {r a b : List Nat} (h : rpiece r = some (a, b)) : 2 ≤ r.length ∧ a.length = num (r.take 2) ∧ b.length + a.length + 2 = r.length ∧ r = r.take 2 ++ a ++ b := by
  unfold rpiece at h
  split at h
  · cases h
  · rename_i h1 r1 e1
    obtain ⟨k1, rfl, rfl⟩ := rd_len e1
    obtain ⟨k2, rfl, rfl⟩ := rd_len h
    rw [List.length_drop] at k2
    refine ⟨k1, ?_, ?_, ?_⟩
    · rw [List.length_take, List.length_drop]; omega
    · rw [List.length_drop, List.length_take, List.length_drop]; omega
    · rw [List.append_assoc, List.take_append_drop, List.take_append_drop]
theorem rattrs_more : ∀ (n k last : Nat) (t : Rt) (kn : Nat) (r : List Nat), r.length ≤ n → rattrs (n + k) last t kn r = rattrs n last t kn r
  | 0, k, last, t, kn, r, h => by
    have h0 : r.length = 0 := by omega
    cases k with
    | zero => rfl
    | succ k => rw [Nat.zero_add]; unfold rattrs; rw [if_pos h0, if_pos h0]
  | n + 1, k, last, t, kn, r, h => by
    rw [show n + 1 + k = (n + k) + 1 by omega]
    unfold rattrs
    by_cases h0 : r.length = 0
    · rw [if_pos h0, if_pos h0]
    · rw [if_neg h0, if_neg h0]
      cases e : rd 1 r with
      | none => rfl
      | some q =>
        obtain ⟨h1, r1⟩ := q
        dsimp only
        obtain ⟨k1, rfl, rfl⟩ := rd_len e
        cases e2 : rpiece (r.drop 1) with
        | none => rfl
        | some q2 =>
          obtain ⟨v, r2⟩ := q2
          dsimp only
          obtain ⟨-, -, h3, -⟩ := rpiece_len e2
          rw [List.length_drop] at h3
          rw [rattrs_more n k _ _ _ r2 (by omega)]
          cases setA t (num (r.take 1)) v with
          | none => rfl
          | some t2 => dsimp only; rw [rattrs_more n k _ _ _ r2 (by omega)]
theorem attrsR_nil (last : Nat) (t : Rt) (kn : Nat) : attrsR last t kn [] = some (t, kn) := rfl
theorem attrsR_cons {r : List Nat} (last : Nat) (t : Rt) (kn : Nat) (h0 : 0 < r.length) : attrsR last t kn r = match rpiece (r.drop 1) with
    | none => none
    | some (v, r2) =>
      if num (r.take 1) ≤ last then none
      else if passed (num (r.take 1)) then attrsR (num (r.take 1)) t kn r2
      else match setA t (num (r.take 1)) v with
        | none => none
        | some t2 => attrsR (num (r.take 1)) t2 r2.length r2 := by
  unfold attrsR
  obtain ⟨n, hn⟩ : ∃ n, r.length = n + 1 := ⟨r.length - 1, by omega⟩
  rw [hn, rattrs, if_neg (by omega), rd_yes (by omega)]
  dsimp only
  cases e2 : rpiece (r.drop 1) with
  | none => rfl
  | some q2 =>
    obtain ⟨v, r2⟩ := q2
    dsimp only
    obtain ⟨-, -, h3, -⟩ := rpiece_len e2
    rw [List.length_drop] at h3
    rw [show n = r2.length + (n - r2.length) by omega, rattrs_more _ _ _ _ _ _ (Nat.le_refl _)]
    cases setA t (num (r.take 1)) v with
    | none => rfl
    | some t2 => dsimp only; rw [rattrs_more _ _ _ _ _ _ (Nat.le_refl _)]
/-- an update's parts, and it without what is passed over -/
def rupd (b : List Nat) : Option (Ms × List Nat) :=
  match rpiece b with
  | none => none
  | some (lost, r1) => match rpiece r1 with
    | none => none
    | some (ats, hv) => match pfxsR lost with
      | none => none
      | some ls => match attrsR 0 rtZ ats.length ats with
        | none => none
        | some (t, kn) => match pfxsR hv with
          | none => none
          | some hs => some (⟨2, 0, 0, 0, 0, ls, hs, t⟩, updB lost (ats.take (ats.length - kn)) hv)
def readB (kind : Nat) (b : List Nat) : Option (Ms × List Nat) :=
  if kind = 1 then (if 11 ≤ b.length then some ({ ms0 with kind := 1, dom := (num ((b.drop 1).take 4) : Nat), hold := (num ((b.drop 5).take 2) : Nat), id := (num ((b.drop 7).take 4) : Nat) }, b) else none)
  else if kind = 2 then rupd b
  else if kind = 4 then (if 1 ≤ b.length then some ({ ms0 with kind := 4, code := (num (b.take 1) : Nat) }, b) else none)
  else some ({ ms0 with kind := (kind : Nat) }, b)
/-- what holds for the bytes of every message -/
def bgE (b : List Nat) : Int := if (b.take 4).any (fun c => c != 255) then 4 else if 6 ≤ b.length ∧ ¬ (9 ≤ num ((b.drop 4).take 2) ∧ num ((b.drop 4).take 2) ≤ 1024) then 6 else 0
def frE (b : List Nat) : Int :=
  if b.length < 9 then 4
  else if bgE b ≠ 0 then bgE b
  else if num ((b.drop 4).take 2) ≠ b.length then 4
  else if num ((b.drop 7).take 2) ≠ ssum 65535 ((b[6]?.getD 0) :: b.drop 9) then 5
  else if isK ((b[6]?.getD 0 : Nat) : Int) = false then 13 else 0
def dec (b : List Nat) : Ms × Int :=
  if frE b ≠ 0 then (ms0, frE b)
  else match readB (b[6]?.getD 0) (b.drop 9) with
    | none => (ms0, 4)
    | some (m, body) => if encE m = 0 ∧ encB m = frame (b[6]?.getD 0) body then (m, 0) else (ms0, 4)
end Go.Proofs.Ytanboekdfdafmaa.Pv
