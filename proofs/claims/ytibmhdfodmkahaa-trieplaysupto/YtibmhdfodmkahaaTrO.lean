/- Putting into a trie, dropping from it, looking up and the longest match: plain trees. -/
import Derived.Test.YtibmhdfodmkahaaTrN
namespace Go.Proofs.Ytibmhdfodmkahaa.TrM
open Go.Proofs.Ytibmhdfodmkahaa.PM

def ins : Tr → Int → Int → Int → Tr
  | .nil, a, n, v => .node a n v true .nil .nil
  | .node b m u h l r, a, n, v =>
    if b = a ∧ m = n then .node a n v true l r
    else if cov b m a n = true then
      (if sdI a m = 0 then .node b m u h (ins l a n v) r else .node b m u h l (ins r a n v))
    else if cov a n b m = true then
      (if sdI b n = 0 then .node a n v true (.node b m u h l r) .nil else .node a n v true .nil (.node b m u h l r))
    else if sdI b (shN b a) = 0 then .node (shA b a) (shN b a) 0 false (.node b m u h l r) (.node a n v true .nil .nil)
    else .node (shA b a) (shN b a) 0 false (.node a n v true .nil .nil) (.node b m u h l r)

def isNil : Tr → Bool
  | .nil => true
  | .node .. => false

def slim : Tr → Tr
  | .nil => .nil
  | .node b m u h l r => if h = true ∨ (isNil l = false ∧ isNil r = false) then .node b m u h l r else if isNil l = false then l else r

def del : Tr → Int → Int → Tr × Bool
  | .nil, _, _ => (.nil, false)
  | .node b m u h l r, a, n =>
    if cov b m a n = true then
      (if b = a ∧ m = n then (if h = true then (slim (.node b m 0 false l r), true) else (.node b m u h l r, false))
      else if sdI a m = 0 then (if (del l a n).2 = true then (slim (.node b m u h (del l a n).1 r), true) else (.node b m u h l r, false))
      else (if (del r a n).2 = true then (slim (.node b m u h l (del r a n).1), true) else (.node b m u h l r, false)))
    else (.node b m u h l r, false)

def look : Tr → Int → Int → Option Int
  | .nil, _, _ => none
  | .node b m u h l r, a, n =>
    if b = a ∧ m = n then (if h = true then some u else none)
    else if cov b m a n = true then (if sdI a m = 0 then look l a n else look r a n)
    else none

def Root (c k : Int) : Tr → Prop
  | .nil => True
  | .node b m _ _ _ _ => cov c k b m = true
def WF : Tr → Prop
  | .nil => True
  | .node b m _ _ l r => vld b m = true ∧ (0 ≤ b ∧ b < 4294967296) ∧ Root (kid b m 0) (m + 1) l ∧ Root (kid b m 1) (m + 1) r ∧ WF l ∧ WF r

theorem Root.mono {c k c2 k2 : Int} {t : Tr} (h : Root c2 k2 t) (hc : cov c k c2 k2 = true) : Root c k t := by
  cases t with
  | nil => trivial
  | node b m u hh l r => exact cov_trans hc h
/-- a half lies in the whole -/
theorem kid_cov {b m s : Int} (hs : s = 0 ∨ s = 1) {t : Tr} (hv : vld b m = true) (h : Root (kid b m s) (m + 1) t) : Root b m t := by
  cases t with
  | nil => trivial
  | node c k u hh l r =>
    have hk : m < 32 := by have := (cov_iff _ _ _ _).1 h; omega
    exact (kid_side hv hk hs h).1
theorem look_out {c k : Int} {t : Tr} (hr : Root c k t) {a n : Int} {v : Int} (h : look t a n = some v) : cov c k a n = true := by
  cases t with
  | nil => cases h
  | node b m u hh l r =>
    unfold look at h
    split at h
    · rename_i e; obtain ⟨rfl, rfl⟩ := e; exact hr
    · split at h
      · rename_i _ e; exact cov_trans hr e
      · cases h

theorem fork_root {c k b m a n : Int} (hb : cov c k b m = true) (ha : cov c k a n = true) (b0 : 0 ≤ b) (b1 : b < 4294967296) (a0 : 0 ≤ a) (a1 : a < 4294967296) (h1 : cov b m a n = false) (h2 : cov a n b m = false) :
    cov c k (shA b a) (shN b a) = true := by
  obtain ⟨⟨k0, km, kn⟩, p1, p2, p3, _⟩ := shared_ok (cov_vld hb).2.1 (cov_vld ha).2.1 b0 b1 a0 a1 h1 h2
  by_cases e : k ≤ shN b a
  · exact cov_line hb p1 e
  · exfalso
    have hc : cov (shA b a) (shN b a) c k = true := cov_line p1 hb (by omega)
    have hs := side_kid hc (by omega) _ rfl
    have hv := (cov_vld p1).1
    have hk := (cov_iff c k b m).1 hb
    have q1 := kid_side hv (by omega) (sdI_01 _ _) (cov_trans hs hb)
    have q2 := kid_side hv (by omega) (sdI_01 _ _) (cov_trans hs ha)
    exact p3 (q1.2.2.trans q2.2.2.symm)

theorem root_ins {c k : Int} {t : Tr} {a n v : Int} (hr : Root c k t) (hw : WF t) (ha : cov c k a n = true) (a0 : 0 ≤ a) (a1 : a < 4294967296) : Root c k (ins t a n v) := by
  cases t with
  | nil => exact ha
  | node b m u hh l r =>
    unfold ins
    split
    · exact ha
    · split
      · split <;> exact hr
      · split
        · split <;> exact ha
        · rename_i e1 e2
          have := fork_root (b := b) (m := m) hr ha hw.2.1.1 hw.2.1.2 a0 a1 (by simpa using e1) (by simpa using e2)
          split <;> exact this
theorem wf_ins {t : Tr} {a n v : Int} (hw : WF t) (ha : vld a n = true) (a0 : 0 ≤ a) (a1 : a < 4294967296) : WF (ins t a n v) := by
  induction t with
  | nil => exact ⟨ha, ⟨a0, a1⟩, trivial, trivial, trivial, trivial⟩
  | node b m u hh l r il ir =>
    have hw' := hw
    obtain ⟨hv, hb, r0, r1, w0, w1⟩ := hw
    unfold ins
    split
    · rename_i e; obtain ⟨rfl, rfl⟩ := e; exact ⟨hv, hb, r0, r1, w0, w1⟩
    · rename_i ne
      split
      · rename_i hc
        have hlt := cov_lt hc ne
        split
        · rename_i hs
          exact ⟨hv, hb, root_ins r0 w0 (side_kid hc hlt 0 hs) a0 a1, r1, il w0, w1⟩
        · rename_i hs
          have hs1 : sdI a m = 1 := by rcases sdI_01 a m with h | h <;> simp_all
          exact ⟨hv, hb, r0, root_ins r1 w1 (side_kid hc hlt 1 hs1) a0 a1, w0, ir w1⟩
      · rename_i nc
        split
        · rename_i hc
          have hlt := cov_lt hc (fun e => ne ⟨e.1.symm, e.2.symm⟩)
          split
          · rename_i hs
            exact ⟨ha, ⟨a0, a1⟩, side_kid hc hlt 0 hs, trivial, hw', trivial⟩
          · rename_i hs
            have hs1 : sdI b n = 1 := by rcases sdI_01 b n with h | h <;> simp_all
            exact ⟨ha, ⟨a0, a1⟩, trivial, side_kid hc hlt 1 hs1, trivial, hw'⟩
        · rename_i nc2
          obtain ⟨⟨k0, km, kn⟩, p1, p2, p3, f0, f1⟩ := shared_ok hv ha hb.1 hb.2 a0 a1 (by simpa using nc) (by simpa using nc2)
          have hleaf : WF (.node a n v true .nil .nil) := ⟨ha, ⟨a0, a1⟩, trivial, trivial, trivial, trivial⟩
          split
          · rename_i hs
            have hs1 : sdI a (shN b a) = 1 := by rcases sdI_01 a (shN b a) with h | h <;> simp_all
            exact ⟨(cov_vld p1).1, ⟨f0, f1⟩, side_kid p1 km 0 hs, side_kid p2 kn 1 hs1, hw', hleaf⟩
          · rename_i hs
            have hs1 : sdI b (shN b a) = 1 := by rcases sdI_01 b (shN b a) with h | h <;> simp_all
            have hs0 : sdI a (shN b a) = 0 := by rcases sdI_01 a (shN b a) with h | h <;> simp_all
            exact ⟨(cov_vld p1).1, ⟨f0, f1⟩, side_kid p2 kn 0 hs0, side_kid p1 km 1 hs1, hleaf, hw'⟩

theorem look_at {b m u : Int} {h : Bool} {l r : Tr} {c k : Int} (e : b = c ∧ m = k) : look (.node b m u h l r) c k = if h = true then some u else none := by
  unfold look; exact if_pos e
theorem look_l {b m u : Int} {h : Bool} {l r : Tr} {c k : Int} (ne : ¬ (b = c ∧ m = k)) (hc : cov b m c k = true) (hs : sdI c m = 0) : look (.node b m u h l r) c k = look l c k := by
  conv => lhs; unfold look
  rw [if_neg ne, if_pos hc, if_pos hs]
theorem look_r {b m u : Int} {h : Bool} {l r : Tr} {c k : Int} (ne : ¬ (b = c ∧ m = k)) (hc : cov b m c k = true) (hs : ¬ sdI c m = 0) : look (.node b m u h l r) c k = look r c k := by
  conv => lhs; unfold look
  rw [if_neg ne, if_pos hc, if_neg hs]
/-- looked up behind a root that does not cover: nothing -/
theorem look_none {b m u : Int} {h : Bool} {l r : Tr} {c k : Int} (h1 : ¬ (b = c ∧ m = k)) (h2 : ¬ cov b m c k = true) : look (.node b m u h l r) c k = none := by
  unfold look; rw [if_neg h1, if_neg h2]
/-- two prefixes on different sides of a third: the one does not cover the other, and they are not the same -/
theorem apart {f k b m c j : Int} (h1 : cov f k b m = true) (hm : k < m) (hs : sdI b k ≠ sdI c k) : ¬ (b = c ∧ m = j) ∧ ¬ cov b m c j = true := by
  refine ⟨fun e => hs (by rw [e.1]), fun e => ?_⟩
  have hv := (cov_vld h1).1
  have hk := (cov_iff f k b m).1 h1
  have q := kid_side hv (by omega) (sdI_01 b k) (cov_trans (side_kid h1 hm _ rfl) e)
  exact hs q.2.2.symm

theorem look_leaf_at (a n v : Int) : look (.node a n v true .nil .nil) a n = some v := by rw [look_at ⟨rfl, rfl⟩]; rfl
theorem look_leaf_no {a n v c k : Int} (ne : ¬ (c = a ∧ k = n)) : look (.node a n v true .nil .nil) c k = none := by
  have ne' : ¬ (a = c ∧ n = k) := fun h => ne ⟨h.1.symm, h.2.symm⟩
  by_cases hc : cov a n c k = true
  · by_cases hs : sdI c n = 0
    · rw [look_l ne' hc hs]; rfl
    · rw [look_r ne' hc hs]; rfl
  · exact look_none ne' hc

theorem look_put {t : Tr} {a n v : Int} (hw : WF t) (ha : vld a n = true) (a0 : 0 ≤ a) (a1 : a < 4294967296) : look (ins t a n v) a n = some v := by
  induction t with
  | nil => exact look_leaf_at a n v
  | node b m u hh l r il ir =>
    obtain ⟨hv, hb, r0, r1, w0, w1⟩ := hw
    unfold ins
    split
    · rw [look_at ⟨rfl, rfl⟩]; rfl
    · rename_i ne
      split
      · rename_i hc
        split
        · rename_i hs; rw [look_l ne hc hs]; exact il w0
        · rename_i hs; rw [look_r ne hc hs]; exact ir w1
      · rename_i nc
        split
        · split <;> (rw [look_at ⟨rfl, rfl⟩]; rfl)
        · rename_i nc2
          obtain ⟨⟨k0, km, kn⟩, p1, p2, p3, f0, f1⟩ := shared_ok hv ha hb.1 hb.2 a0 a1 (by simpa using nc) (by simpa using nc2)
          have nf : ¬ (shA b a = a ∧ shN b a = n) := by rintro ⟨-, e⟩; omega
          split
          · rename_i hs
            rw [look_r nf p2 (fun h => p3 (hs.trans h.symm))]; exact look_leaf_at a n v
          · rename_i hs
            have : sdI a (shN b a) = 0 := by
              rcases sdI_01 a (shN b a) with h | h
              · exact h
              · rcases sdI_01 b (shN b a) with h' | h'
                · exact absurd h' hs
                · exact absurd (h'.trans h.symm) p3
            rw [look_l nf p2 this]; exact look_leaf_at a n v

theorem look_else {t : Tr} {a n v : Int} (hw : WF t) (ha : vld a n = true) (a0 : 0 ≤ a) (a1 : a < 4294967296) {c k : Int} (ne : ¬ (c = a ∧ k = n)) : look (ins t a n v) c k = look t c k := by
  have ne' : ¬ (a = c ∧ n = k) := fun h => ne ⟨h.1.symm, h.2.symm⟩
  induction t with
  | nil => exact look_leaf_no ne
  | node b m u hh l r il ir =>
    obtain ⟨hv, hb, r0, r1, w0, w1⟩ := hw
    unfold ins
    split
    · rename_i e; obtain ⟨rfl, rfl⟩ := e
      by_cases hc : cov b m c k = true
      · by_cases hs : sdI c m = 0
        · rw [look_l ne' hc hs, look_l ne' hc hs]
        · rw [look_r ne' hc hs, look_r ne' hc hs]
      · rw [look_none ne' hc, look_none ne' hc]
    · rename_i e0
      split
      · rename_i e1
        by_cases ec : b = c ∧ m = k
        · split <;> rw [look_at ec, look_at ec]
        · by_cases hc : cov b m c k = true
          · by_cases hs : sdI c m = 0
            · split
              · rw [look_l ec hc hs, look_l ec hc hs]; exact il w0
              · rw [look_l ec hc hs, look_l ec hc hs]
            · split
              · rw [look_r ec hc hs, look_r ec hc hs]
              · rw [look_r ec hc hs, look_r ec hc hs]; exact ir w1
          · split <;> rw [look_none ec hc, look_none ec hc]
      · rename_i e1
        split
        · rename_i e2
          have hlt := cov_lt e2 (fun e => e0 ⟨e.1.symm, e.2.symm⟩)
          by_cases hc : cov a n c k = true
          · by_cases hs : sdI c n = 0
            · split
              · rw [look_l ne' hc hs]
              · rename_i hb0
                obtain ⟨q1, q2⟩ := apart (j := k) e2 hlt (fun h => hb0 (h.trans hs))
                rw [look_l ne' hc hs, look_none q1 q2]; rfl
            · split
              · rename_i hb0
                obtain ⟨q1, q2⟩ := apart (j := k) e2 hlt (fun h => hs (h.symm.trans hb0))
                rw [look_r ne' hc hs, look_none q1 q2]; rfl
              · rw [look_r ne' hc hs]
          · have : look (.node b m u hh l r) c k = none := by
              refine look_none ?_ ?_
              · rintro ⟨rfl, rfl⟩; exact hc e2
              · intro h; exact hc (cov_trans e2 h)
            rw [this]
            split <;> exact look_none ne' hc
        · rename_i e2
          obtain ⟨⟨k0, km, kn⟩, p1, p2, p3, f0, f1⟩ := shared_ok hv ha hb.1 hb.2 a0 a1 (by simpa using e1) (by simpa using e2)
          by_cases ef : shA b a = c ∧ shN b a = k
          · have : look (.node b m u hh l r) c k = none := by
              refine look_none (by rintro ⟨-, e⟩; omega) ?_
              intro h; have := (cov_vld h).2.2.1; omega
            rw [this]
            split <;> (rw [look_at ef]; rfl)
          · by_cases hc : cov (shA b a) (shN b a) c k = true
            · by_cases hs : sdI c (shN b a) = 0
              · split
                · rw [look_l ef hc hs]
                · rename_i hb0
                  obtain ⟨q1, q2⟩ := apart (j := k) p1 km (fun h => hb0 (h.trans hs))
                  rw [look_l ef hc hs, look_none q1 q2, look_leaf_no ne]
              · split
                · rename_i hb0
                  obtain ⟨q1, q2⟩ := apart (j := k) p1 km (fun h => hs (h.symm.trans hb0))
                  rw [look_r ef hc hs, look_none q1 q2, look_leaf_no ne]
                · rw [look_r ef hc hs]
            · have : look (.node b m u hh l r) c k = none := by
                refine look_none ?_ ?_
                · rintro ⟨rfl, rfl⟩; exact hc p1
                · intro h; exact hc (cov_trans p1 h)
              rw [this]
              split <;> exact look_none ef hc
end Go.Proofs.Ytibmhdfodmkahaa.TrM
