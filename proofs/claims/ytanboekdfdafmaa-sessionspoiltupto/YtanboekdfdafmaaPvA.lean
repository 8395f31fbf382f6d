/- Messages between domains, in plain words: what keeps one from being written, and its bytes. -/
import Derived.Test.YtanboekdfdafmaaPMath
namespace Go.Proofs.Ytanboekdfdafmaa.Pv
open Go.Proofs.Ytanboekdfdafmaa.PM
set_option linter.unusedVariables false

/-- a route -/
structure Rt where
  pa : Int
  pn : Int
  path : List Int
  org : Int
  pref : Int
  med : Int
  next : Int
  marks : List Int
  clus : List Int
  auth : Int
/-- a message -/
structure Ms where
  kind : Int
  dom : Int
  id : Int
  hold : Int
  code : Int
  lost : List (Int × Int)
  hv : List (Int × Int)
  rt : Rt
/-- a number between two -/
def wi (n lo hi : Int) : Bool := decide (lo ≤ n ∧ n ≤ hi)
def isK (n : Int) : Bool := wi n 1 4
def isNm (n : Int) : Bool := wi n 1 4294967295
def isNo (n : Int) : Bool := wi n 0 4294967295
def bare (r : Rt) : Bool := decide (r.pa = 0 ∧ r.pn = 0 ∧ r.org = 0 ∧ r.next = 0 ∧ r.med = 0 ∧ r.pref = 0 ∧ r.auth = 0 ∧ r.path.length = 0 ∧ r.marks.length = 0 ∧ r.clus.length = 0)
def form (m : Ms) : Bool :=
  if m.kind = 1 then decide (m.code = 0 ∧ m.lost.length = 0 ∧ m.hv.length = 0) && bare m.rt
  else if m.kind = 2 then decide (m.dom = 0 ∧ m.id = 0 ∧ m.hold = 0 ∧ m.code = 0) && (if 0 < m.hv.length then decide (m.rt.pa = 0 ∧ m.rt.pn = 0) else bare m.rt)
  else if m.kind = 4 then decide (m.dom = 0 ∧ m.id = 0 ∧ m.hold = 0 ∧ m.lost.length = 0 ∧ m.hv.length = 0) && bare m.rt
  else decide (m.dom = 0 ∧ m.id = 0 ∧ m.hold = 0 ∧ m.code = 0 ∧ m.lost.length = 0 ∧ m.hv.length = 0) && bare m.rt
def allV (ps : List (Int × Int)) : Bool := ps.all (fun p => vld p.1 p.2)
/-- two that stand next to each other -/
def lt2 (p q : Int × Int) : Bool := decide (p.1 < q.1 ∨ (p.1 = q.1 ∧ p.2 < q.2))
def chain {α : Type} (r : α → α → Bool) : List α → Bool
  | [] => true
  | [_] => true
  | x :: y :: l => r x y && chain r (y :: l)
def rise (ps : List (Int × Int)) : Bool := chain lt2 ps
def riseI (xs : List Int) : Bool := chain (fun x y => decide (x < y)) xs
/-- is one in both? -/
def meet (ps qs : List (Int × Int)) : Bool := ps.any (fun p => qs.any (fun q => decide (p = q)))
def routeR (r : Rt) : Bool := wi r.org 0 2 && isNo r.med && isNo r.pref && isNo r.auth && decide (r.path.length ≤ 64) && r.path.all isNm && decide (r.marks.length ≤ 32) && r.marks.all isNo && decide (r.clus.length ≤ 32) && r.clus.all isNo
def inR (m : Ms) : Bool :=
  if m.kind = 1 then isNm m.dom && isNm m.id && (decide (m.hold = 0) || wi m.hold 3 65535)
  else if m.kind = 2 then routeR m.rt
  else if m.kind = 4 then wi m.code 0 255
  else true
/-- what keeps it from being written, but its length -/
def chk (m : Ms) : Int :=
  if isK m.kind = false then 13
  else if form m = false then 4
  else if (allV m.lost && allV m.hv) = false then 3
  else if (rise m.lost && rise m.hv && !meet m.lost m.hv) = false then 8
  else if inR m = false then 2
  else if riseI m.rt.marks = false then 4 else 0

/-- the bytes of a number, the highest first -/
def big (size n : Nat) : List Nat := (List.range size).map (fun i => n / 2 ^ (8 * (size - 1 - i)) % 256)
theorem big_len (size n : Nat) : (big size n).length = size := by simp [big]
theorem big_u8 (size n : Nat) : ∀ d ∈ big size n, d < 256 := by
  intro d hd
  simp only [big, List.mem_map] at hd
  obtain ⟨i, -, rfl⟩ := hd
  exact Nat.mod_lt _ (by decide)
def bsz (n : Nat) : Nat := (n + 7) / 8
def pfxB (p : Int × Int) : List Nat := big 1 p.2.toNat ++ big (bsz p.2.toNat) (p.1.toNat / 2 ^ (32 - 8 * bsz p.2.toNat))
def pfxsB (ps : List (Int × Int)) : List Nat := ps.flatMap pfxB
def wordsB (size : Nat) (xs : List Int) : List Nat := xs.flatMap (fun n => big size n.toNat)
def piece (b : List Nat) : List Nat := big 2 b.length ++ b
def attr (k : Nat) (v : List Nat) : List Nat := big 1 k ++ piece v
/-- an attribute, if it is there -/
def attrIf (k size : Nat) (there : Bool) (xs : List Int) : List Nat := if there then attr k (wordsB size xs) else []
def attrs (m : Ms) : List Nat :=
  attrIf 1 1 (decide (0 < m.hv.length)) [m.rt.org] ++ attrIf 2 4 (decide (0 < m.hv.length)) m.rt.path ++ attrIf 3 4 (decide (0 < m.hv.length)) [m.rt.next] ++
  attrIf 4 4 (m.rt.med != 0) [m.rt.med] ++ attrIf 5 4 (m.rt.pref != 0) [m.rt.pref] ++ attrIf 6 4 (decide (0 < m.rt.marks.length)) m.rt.marks ++
  attrIf 7 4 (m.rt.auth != 0) [m.rt.auth] ++ attrIf 8 4 (decide (0 < m.rt.clus.length)) m.rt.clus
def updB (l a h : List Nat) : List Nat := piece l ++ piece a ++ h
def body (m : Ms) : List Nat :=
  if m.kind = 1 then big 1 1 ++ big 4 m.dom.toNat ++ big 2 m.hold.toNat ++ big 4 m.id.toNat
  else if m.kind = 2 then updB (pfxsB m.lost) (attrs m) (pfxsB m.hv)
  else if m.kind = 4 then big 1 m.code.toNat else []
/-- the sum, bit by bit -/
def sbit (s : Nat) : Nat := (s * 2 % 65536) ^^^ (s / 32768 * 4129)
def sbits : Nat → Nat → Nat
  | 0, s => s
  | k + 1, s => sbits k (sbit s)
def stir (s c : Nat) : Nat := sbits 8 (s ^^^ (c * 256))
def ssum (s : Nat) (bs : List Nat) : Nat := bs.foldl stir s
theorem xor_lt16 {a b : Nat} (ha : a < 65536) (hb : b < 65536) : a ^^^ b < 65536 := Nat.xor_lt_two_pow (n := 16) ha hb
theorem sbit_lt {s : Nat} (h : s < 65536) : sbit s < 65536 := by
  have h1 : s / 32768 < 2 := by omega
  have h2 : s / 32768 * 4129 ≤ 1 * 4129 := Nat.mul_le_mul_right _ (by omega)
  exact xor_lt16 (Nat.mod_lt _ (by decide)) (by omega)
theorem sbits_lt : ∀ (k s : Nat), s < 65536 → sbits k s < 65536
  | 0, s, h => h
  | k + 1, s, h => sbits_lt k _ (sbit_lt h)
theorem stir_lt {s c : Nat} (hs : s < 65536) (hc : c < 256) : stir s c < 65536 := sbits_lt 8 _ (xor_lt16 hs (by omega))
theorem ssum_lt : ∀ (bs : List Nat) (s : Nat), s < 65536 → (∀ d ∈ bs, d < 256) → ssum s bs < 65536
  | [], s, h, _ => h
  | b :: bs, s, h, hu => ssum_lt bs _ (stir_lt h (hu b (List.mem_cons_self ..))) (fun d hd => hu d (List.mem_cons_of_mem _ hd))
def frame (kind : Nat) (b : List Nat) : List Nat := [255, 255, 255, 255] ++ big 2 (9 + b.length) ++ big 1 kind ++ big 2 (ssum 65535 (kind :: b)) ++ b
/-- what Encode answers -/
def encE (m : Ms) : Int := if chk m = 0 then (if 1024 < m.lost.length + m.hv.length then 6 else if 1024 < 9 + (body m).length then 6 else 0) else chk m
def encB (m : Ms) : List Nat := if encE m = 0 then frame m.kind.toNat (body m) else []

/-! what follows -/
theorem isK_iff {n : Int} : isK n = true ↔ 1 ≤ n ∧ n ≤ 4 := by simp [isK, wi]
theorem wi_iff {n lo hi : Int} : wi n lo hi = true ↔ lo ≤ n ∧ n ≤ hi := by simp [wi]
theorem wi_not {n lo hi : Int} : wi n lo hi = false ↔ ¬ (lo ≤ n ∧ n ≤ hi) := by simp [wi]
theorem chain_cons {α : Type} {r : α → α → Bool} {x y : α} {l : List α} : chain r (x :: y :: l) = (r x y && chain r (y :: l)) := rfl
/-- place by place -/
theorem chain_iff {α : Type} {r : α → α → Bool} : ∀ {l : List α}, chain r l = true ↔ ∀ i (h : i + 1 < l.length), r l[i] l[i + 1] = true
  | [] => by simp [chain]
  | [x] => by simp [chain]
  | x :: y :: l => by
    rw [chain_cons, Bool.and_eq_true, chain_iff]
    constructor
    · rintro ⟨h1, h2⟩ i hi
      cases i with
      | zero => exact h1
      | succ i => exact h2 i (by simpa using hi)
    · intro h
      exact ⟨h 0 (by simp), fun i hi => h (i + 1) (by simpa using hi)⟩
theorem chain_no {α : Type} {r : α → α → Bool} {l : List α} (i : Nat) (h : i + 1 < l.length) (hr : r l[i] l[i + 1] = false) : chain r l = false := by
  cases e : chain r l with
  | false => rfl
  | true => rw [chain_iff.1 e i h] at hr; cases hr
theorem lt2_ord {a n b m : Int} : lt2 (a, n) (b, m) = decide (ord a n b m < 0) := by
  unfold lt2 ord
  rw [Bool.eq_iff_iff, decide_eq_true_iff, decide_eq_true_iff]
  dsimp only
  split <;> (try split) <;> omega
theorem all_iff {α : Type} {f : α → Bool} {l : List α} : l.all f = true ↔ ∀ i (h : i < l.length), f l[i] = true := by
  rw [List.all_eq_true]
  constructor
  · intro h i hi; exact h _ (List.getElem_mem hi)
  · intro h x hx
    obtain ⟨i, hi, rfl⟩ := List.getElem_of_mem hx
    exact h i hi
theorem all_no {α : Type} {f : α → Bool} {l : List α} (i : Nat) (h : i < l.length) (hr : f l[i] = false) : l.all f = false := by
  cases e : l.all f with
  | false => rfl
  | true => rw [all_iff.1 e i h] at hr; cases hr
/-- of two lists that rise: what is ahead of the other's first is in neither -/
theorem lt2_trans {p q r : Int × Int} (h1 : lt2 p q = true) (h2 : lt2 q r = true) : lt2 p r = true := by
  unfold lt2 at *
  rw [decide_eq_true_iff] at *
  omega
theorem lt2_irr (p : Int × Int) : lt2 p p = false := by
  unfold lt2
  rw [decide_eq_false_iff_not]
  omega
theorem rise_tail {p : Int × Int} {l : List (Int × Int)} (h : rise (p :: l) = true) : rise l = true := by
  cases l with
  | nil => rfl
  | cons q l =>
    unfold rise at h ⊢
    rw [chain_cons, Bool.and_eq_true] at h
    exact h.2
theorem rise_head {p : Int × Int} : ∀ {l : List (Int × Int)}, rise (p :: l) = true → ∀ x ∈ l, lt2 p x = true
  | [], _, x, hx => by cases hx
  | q :: l, h, x, hx => by
    have h2 : lt2 p q = true := by unfold rise at h; rw [chain_cons, Bool.and_eq_true] at h; exact h.1
    rcases List.mem_cons.1 hx with e | e
    · rw [e]; exact h2
    · exact lt2_trans h2 (rise_head (rise_tail h) x e)
theorem meet_iff {ps qs : List (Int × Int)} : meet ps qs = true ↔ ∃ p ∈ ps, p ∈ qs := by
  unfold meet
  simp only [List.any_eq_true, decide_eq_true_eq]
  constructor
  · rintro ⟨p, hp, q, hq, rfl⟩; exact ⟨p, hp, hq⟩
  · rintro ⟨p, hp, hq⟩; exact ⟨p, hp, p, hq, rfl⟩
theorem meet_nil (qs : List (Int × Int)) : meet [] qs = false := rfl
theorem meet_nil2 (ps : List (Int × Int)) : meet ps [] = false := by
  cases e : meet ps [] with
  | false => rfl
  | true => obtain ⟨p, -, hq⟩ := meet_iff.1 e; cases hq
theorem meet_eq {p : Int × Int} {ps qs : List (Int × Int)} : meet (p :: ps) (p :: qs) = true := meet_iff.2 ⟨p, List.mem_cons_self .., List.mem_cons_self ..⟩
theorem meet_lt {p q : Int × Int} {ps qs : List (Int × Int)} (h : lt2 p q = true) (hq : rise (q :: qs) = true) : meet (p :: ps) (q :: qs) = meet ps (q :: qs) := by
  rw [Bool.eq_iff_iff, meet_iff, meet_iff]
  constructor
  · rintro ⟨x, hx, hy⟩
    rcases List.mem_cons.1 hx with e | e
    · exfalso
      subst e
      rcases List.mem_cons.1 hy with e | e
      · subst e; rw [lt2_irr] at h; cases h
      · have h2 := lt2_trans h (rise_head hq x e)
        rw [lt2_irr] at h2; cases h2
    · exact ⟨x, e, hy⟩
  · rintro ⟨x, hx, hy⟩; exact ⟨x, List.mem_cons_of_mem _ hx, hy⟩
theorem meet_gt {p q : Int × Int} {ps qs : List (Int × Int)} (h : lt2 q p = true) (hp : rise (p :: ps) = true) : meet (p :: ps) (q :: qs) = meet (p :: ps) qs := by
  rw [Bool.eq_iff_iff, meet_iff, meet_iff]
  constructor
  · rintro ⟨x, hx, hy⟩
    rcases List.mem_cons.1 hy with e | e
    · exfalso
      subst e
      rcases List.mem_cons.1 hx with e | e
      · subst e; rw [lt2_irr] at h; cases h
      · have h2 := lt2_trans h (rise_head hp x e)
        rw [lt2_irr] at h2; cases h2
    · exact ⟨x, hx, e⟩
  · rintro ⟨x, hx, hy⟩; exact ⟨x, hx, List.mem_cons_of_mem _ hy⟩
end Go.Proofs.Ytanboekdfdafmaa.Pv
