/- What a walk down a trie gives: plain trees. -/
import Derived.Test.YtibmhdfodmkahaaTrP
namespace Go.Proofs.Ytibmhdfodmkahaa.TrM
open Go.Proofs.Ytibmhdfodmkahaa.PM

/-- what Over gives for the prefix (x, k): those on the way that cover it and have a value, the shortest first -/
def ov : Tr → Int → Int → List (Int × Int × Int)
  | .nil, _, _ => []
  | .node b m u h l r, x, k =>
    if cov b m x k = true then (if h = true then [(b, m, u)] else []) ++ (if sdI x m = 0 then ov l x k else ov r x k)
    else []

/-- the last of them, or what was there -/
def lastOr (acc : Option (Int × Int × Int)) (l : List (Int × Int × Int)) : Option (Int × Int × Int) := l.foldl (fun _ x => some x) acc
theorem lastOr_snoc (acc : Option (Int × Int × Int)) (l : List (Int × Int × Int)) (x : Int × Int × Int) : lastOr acc (l ++ [x]) = some x := by simp [lastOr]
theorem lastOr_app (acc : Option (Int × Int × Int)) (l r : List (Int × Int × Int)) : lastOr acc (l ++ r) = lastOr (lastOr acc l) r := by simp [lastOr]

theorem mt_ov (t : Tr) (x : Int) (acc : Option (Int × Int × Int)) : mt t x acc = lastOr acc (ov t x 32) := by
  induction t generalizing acc with
  | nil => rfl
  | node b m u h l r il ir =>
    unfold mt ov
    by_cases hc : cov b m x 32 = true
    · rw [if_pos hc, if_pos hc]
      cases h with
      | true =>
        by_cases hs : sdI x m = 0
        · rw [if_pos hs, if_pos hs, if_pos rfl, if_pos rfl, il, lastOr_app]; rfl
        · rw [if_neg hs, if_neg hs, if_pos rfl, if_pos rfl, ir, lastOr_app]; rfl
      | false =>
        by_cases hs : sdI x m = 0
        · rw [if_pos hs, if_pos hs, if_neg (by decide), if_neg (by decide), il]; rfl
        · rw [if_neg hs, if_neg hs, if_neg (by decide), if_neg (by decide), ir]; rfl
    · rw [if_neg hc, if_neg hc]; rfl

theorem ov_nil (x k : Int) : ov .nil x k = [] := rfl
theorem ov_out {b m u x k : Int} {h : Bool} {l r : Tr} (hc : cov b m x k = false) : ov (.node b m u h l r) x k = [] := by
  unfold ov; rw [if_neg (by simp [hc])]
theorem ov_t0 {b m u x k : Int} {l r : Tr} (hc : cov b m x k = true) (hs : sdI x m = 0) : ov (.node b m u true l r) x k = (b, m, u) :: ov l x k := by
  conv => lhs; unfold ov
  rw [if_pos hc, if_pos rfl, if_pos hs]; rfl
theorem ov_t1 {b m u x k : Int} {l r : Tr} (hc : cov b m x k = true) (hs : sdI x m = 1) : ov (.node b m u true l r) x k = (b, m, u) :: ov r x k := by
  conv => lhs; unfold ov
  rw [if_pos hc, if_pos rfl, if_neg (by omega)]; rfl
theorem ov_f0 {b m u x k : Int} {l r : Tr} (hc : cov b m x k = true) (hs : sdI x m = 0) : ov (.node b m u false l r) x k = ov l x k := by
  conv => lhs; unfold ov
  rw [if_pos hc, if_neg (by decide), if_pos hs]; rfl
theorem ov_f1 {b m u x k : Int} {l r : Tr} (hc : cov b m x k = true) (hs : sdI x m = 1) : ov (.node b m u false l r) x k = ov r x k := by
  conv => lhs; unfold ov
  rw [if_pos hc, if_neg (by decide), if_neg (by omega)]; rfl

/-- how far a root's length is from the end -/
def room : Tr → Nat
  | .nil => 0
  | .node _ m _ _ _ _ => (33 - m).toNat
theorem root_len {c k : Int} {t : Tr} (h : Root c k t) : ∀ {b m u hh l r}, t = Tr.node b m u hh l r → k ≤ m := by
  intro b m u hh l r e; subst e
  have := (cov_iff c k b m).1 h; omega
theorem room_kid {b m u : Int} {h : Bool} {l r t : Tr} {s : Int} (hw : WF (.node b m u h l r)) (hr : Root (kid b m s) (m + 1) t) : room t < room (.node b m u h l r) := by
  have hm : m ≤ 32 := by have := (vld_iff b m).1 hw.1; omega
  cases t with
  | nil => show 0 < (33 - m).toNat; omega
  | node b2 m2 u2 h2 l2 r2 =>
    have h1 := root_len hr rfl
    show (33 - m2).toNat < (33 - m).toNat; omega
end Go.Proofs.Ytibmhdfodmkahaa.TrM
