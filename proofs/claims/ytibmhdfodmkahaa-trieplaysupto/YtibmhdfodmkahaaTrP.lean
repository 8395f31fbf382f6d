/- Dropping from a trie, and the longest match: plain trees. -/
import Derived.Test.YtibmhdfodmkahaaTrO
namespace Go.Proofs.Ytibmhdfodmkahaa.TrM
open Go.Proofs.Ytibmhdfodmkahaa.PM

theorem kid_no {b m s : Int} {t : Tr} (h : Root (kid b m s) (m + 1) t) : look t b m = none := by
  cases e : look t b m with
  | none => rfl
  | some v => have := (cov_vld (look_out h e)).2.2.1; omega
theorem kid_in {b m s : Int} (hs : s = 0 ∨ s = 1) {t : Tr} (hv : vld b m = true) (h : Root (kid b m s) (m + 1) t) {c k v : Int} (e : look t c k = some v) : cov b m c k = true ∧ m < k ∧ sdI c m = s := by
  have h1 := look_out h e
  have hk : m < 32 := by have := (cov_iff _ _ _ _).1 h1; omega
  exact kid_side hv hk hs h1

theorem slim_l {b m u : Int} {l : Tr} (hw : WF (.node b m u false l .nil)) (c k : Int) : look l c k = look (.node b m u false l .nil) c k := by
  obtain ⟨hv, hb, r0, r1, w0, w1⟩ := hw
  by_cases e : b = c ∧ m = k
  · obtain ⟨rfl, rfl⟩ := e; rw [look_at ⟨rfl, rfl⟩, kid_no r0]; rfl
  · cases hl : look l c k with
    | none =>
      by_cases hc : cov b m c k = true
      · by_cases hs : sdI c m = 0
        · rw [look_l e hc hs, hl]
        · rw [look_r e hc hs]; rfl
      · rw [look_none e hc]
    | some v =>
      have := kid_in (.inl rfl) hv r0 hl
      rw [look_l e this.1 this.2.2, hl]
theorem slim_r {b m u : Int} {r : Tr} (hw : WF (.node b m u false .nil r)) (c k : Int) : look r c k = look (.node b m u false .nil r) c k := by
  obtain ⟨hv, hb, r0, r1, w0, w1⟩ := hw
  by_cases e : b = c ∧ m = k
  · obtain ⟨rfl, rfl⟩ := e; rw [look_at ⟨rfl, rfl⟩, kid_no r1]; rfl
  · cases hl : look r c k with
    | none =>
      by_cases hc : cov b m c k = true
      · by_cases hs : sdI c m = 0
        · rw [look_l e hc hs]; rfl
        · rw [look_r e hc hs, hl]
      · rw [look_none e hc]
    | some v =>
      have := kid_in (.inr rfl) hv r1 hl
      rw [look_r e this.1 (by rw [this.2.2]; decide), hl]
theorem slim_eq (b m u : Int) (h : Bool) (l r : Tr) : slim (.node b m u h l r) = if h = true ∨ (isNil l = false ∧ isNil r = false) then .node b m u h l r else if isNil l = false then l else r := rfl
theorem look_slim {t : Tr} (hw : WF t) (c k : Int) : look (slim t) c k = look t c k := by
  cases t with
  | nil => rfl
  | node b m u h l r =>
    cases h with
    | true => rw [slim_eq, if_pos (Or.inl rfl)]
    | false =>
      cases l with
      | nil => simp only [slim, isNil]; exact slim_r hw c k
      | node b1 m1 u1 h1 l1 r1 =>
        cases r with
        | nil => simp only [slim, isNil]; exact slim_l hw c k
        | node b2 m2 u2 h2 l2 r2 => simp only [slim, isNil]; rfl
theorem wf_slim {t : Tr} (hw : WF t) : WF (slim t) := by
  cases t with
  | nil => exact hw
  | node b m u h l r =>
    rw [slim_eq]
    split
    · exact hw
    · split
      · exact hw.2.2.2.2.1
      · exact hw.2.2.2.2.2
theorem root_slim {c k : Int} {t : Tr} (hw : WF t) (h : Root c k t) : Root c k (slim t) := by
  cases t with
  | nil => exact h
  | node b m u hh l r =>
    obtain ⟨hv, hb, r0, r1, w0, w1⟩ := hw
    rw [slim_eq]
    split
    · exact h
    · split
      · exact (kid_cov (.inl rfl) hv r0).mono h
      · exact (kid_cov (.inr rfl) hv r1).mono h

theorem del_ok (t : Tr) (a n : Int) (hw : WF t) : WF (del t a n).1 ∧ (∀ c k, Root c k t → Root c k (del t a n).1) ∧ (∀ c k, ¬ (c = a ∧ k = n) → look (del t a n).1 c k = look t c k) ∧ look (del t a n).1 a n = none ∧ ((del t a n).2 = false → look t a n = none) := by
  induction t with
  | nil => exact ⟨trivial, fun _ _ h => h, fun _ _ _ => rfl, rfl, fun _ => rfl⟩
  | node b m u hh l r il ir =>
    have hw' := hw
    obtain ⟨hv, hb, r0, r1, w0, w1⟩ := hw
    obtain ⟨lw, lr, ll, ln, lf⟩ := il w0
    obtain ⟨rw1, rr, rl, rn, rf⟩ := ir w1
    unfold del
    split
    · rename_i hc
      split
      · rename_i e
        obtain ⟨rfl, rfl⟩ := e
        cases hh with
        | false =>
          rw [if_neg (by decide : ¬ (false = true))]
          exact ⟨hw', fun _ _ h => h, fun _ _ _ => rfl, look_at (h := false) (And.intro rfl rfl), fun _ => look_at (h := false) (And.intro rfl rfl)⟩
        | true =>
          have w2 : WF (.node b m 0 false l r) := ⟨hv, hb, r0, r1, w0, w1⟩
          rw [if_pos rfl]
          refine ⟨wf_slim w2, fun c k h => root_slim w2 h, fun c k ne => ?_, ?_, fun h => by cases h⟩
          · rw [look_slim w2]
            have ne' : ¬ (b = c ∧ m = k) := fun h => ne ⟨h.1.symm, h.2.symm⟩
            by_cases h1 : cov b m c k = true
            · by_cases hs : sdI c m = 0
              · rw [look_l ne' h1 hs, look_l ne' h1 hs]
              · rw [look_r ne' h1 hs, look_r ne' h1 hs]
            · rw [look_none ne' h1, look_none ne' h1]
          · rw [look_slim w2, look_at ⟨rfl, rfl⟩]; rfl
      · rename_i ne0
        have hlt := cov_lt hc ne0
        split
        · rename_i hs
          split
          · have w2 : WF (.node b m u hh (del l a n).1 r) := ⟨hv, hb, lr _ _ r0, r1, lw, w1⟩
            refine ⟨wf_slim w2, fun c k h => root_slim w2 h, fun c k ne => ?_, ?_, fun h => by cases h⟩
            · rw [look_slim w2]
              by_cases ec : b = c ∧ m = k
              · rw [look_at ec, look_at ec]
              · by_cases h1 : cov b m c k = true
                · by_cases hs2 : sdI c m = 0
                  · rw [look_l ec h1 hs2, look_l ec h1 hs2, ll c k ne]
                  · rw [look_r ec h1 hs2, look_r ec h1 hs2]
                · rw [look_none ec h1, look_none ec h1]
            · rw [look_slim w2, look_l ne0 hc hs, ln]
          · rename_i hf
            have : look (.node b m u hh l r) a n = none := by rw [look_l ne0 hc hs]; exact lf (by simpa using hf)
            exact ⟨hw', fun _ _ h => h, fun _ _ _ => rfl, this, fun _ => this⟩
        · rename_i hs
          split
          · have w2 : WF (.node b m u hh l (del r a n).1) := ⟨hv, hb, r0, rr _ _ r1, w0, rw1⟩
            refine ⟨wf_slim w2, fun c k h => root_slim w2 h, fun c k ne => ?_, ?_, fun h => by cases h⟩
            · rw [look_slim w2]
              by_cases ec : b = c ∧ m = k
              · rw [look_at ec, look_at ec]
              · by_cases h1 : cov b m c k = true
                · by_cases hs2 : sdI c m = 0
                  · rw [look_l ec h1 hs2, look_l ec h1 hs2]
                  · rw [look_r ec h1 hs2, look_r ec h1 hs2, rl c k ne]
                · rw [look_none ec h1, look_none ec h1]
            · rw [look_slim w2, look_r ne0 hc hs, rn]
          · rename_i hf
            have : look (.node b m u hh l r) a n = none := by rw [look_r ne0 hc hs]; exact rf (by simpa using hf)
            exact ⟨hw', fun _ _ h => h, fun _ _ _ => rfl, this, fun _ => this⟩
    · rename_i hc
      have : look (.node b m u hh l r) a n = none := by
        refine look_none ?_ hc
        rintro ⟨rfl, rfl⟩; exact hc (cov_self hv)
      exact ⟨hw', fun _ _ h => h, fun _ _ _ => rfl, this, fun _ => this⟩

/-- the last that has a value on the way to an address -/
def mt : Tr → Int → Option (Int × Int × Int) → Option (Int × Int × Int)
  | .nil, _, acc => acc
  | .node b m u h l r, x, acc =>
    if cov b m x 32 = true then (if sdI x m = 0 then mt l x (if h = true then some (b, m, u) else acc) else mt r x (if h = true then some (b, m, u) else acc))
    else acc

theorem mt_kid {b m u x : Int} {h : Bool} {l r t : Tr} {s : Int} (hs : s = 0 ∨ s = 1) (hv : vld b m = true) (hr : Root (kid b m s) (m + 1) t)
    (hsub : ∀ c k, ¬ (b = c ∧ m = k) → cov b m c k = true → sdI c m = s → look (.node b m u h l r) c k = look t c k)
    (hx : cov b m x 32 = true) (hsx : m < 32 → sdI x m = s) (acc res : Option (Int × Int × Int))
    (ih : (∃ b' m' u', res = some (b', m', u') ∧ cov b' m' x 32 = true ∧ look t b' m' = some u' ∧ ∀ c k w, look t c k = some w → cov c k x 32 = true → k ≤ m') ∨ (res = (if h = true then some (b, m, u) else acc) ∧ ∀ c k w, look t c k = some w → cov c k x 32 = true → False)) :
    (∃ b' m' u', res = some (b', m', u') ∧ cov b' m' x 32 = true ∧ look (.node b m u h l r) b' m' = some u' ∧ ∀ c k w, look (.node b m u h l r) c k = some w → cov c k x 32 = true → k ≤ m') ∨ (res = acc ∧ ∀ c k w, look (.node b m u h l r) c k = some w → cov c k x 32 = true → False) := by
  -- whoever covers the address and stands in the trie is the root or stands on the address's side
  have key : ∀ c k w, look (.node b m u h l r) c k = some w → cov c k x 32 = true → (b = c ∧ m = k ∧ h = true ∧ u = w) ∨ (look t c k = some w ∧ m < k) := by
    intro c k w hl hc
    by_cases e : b = c ∧ m = k
    · rw [look_at e] at hl
      cases h with
      | true => simp at hl; exact .inl ⟨e.1, e.2, rfl, hl⟩
      | false => simp at hl
    · right
      by_cases h1 : cov b m c k = true
      · have hlt := cov_lt h1 e
        have hk := (cov_iff c k x 32).1 hc
        have hsc : sdI c m = s := by
          have q := kid_side hv (by omega) (sdI_01 c m) (cov_trans (side_kid h1 hlt _ rfl) hc)
          rw [← q.2.2]; exact hsx (by omega)
        rw [hsub c k e h1 hsc] at hl
        exact ⟨hl, hlt⟩
      · rw [look_none e h1] at hl; cases hl
  rcases ih with ⟨b', m', u', hres, hc, hl, hmax⟩ | ⟨hres, hno⟩
  · left
    have hk := kid_in hs hv hr hl
    refine ⟨b', m', u', hres, hc, ?_, ?_⟩
    · rw [hsub b' m' (by rintro ⟨-, e⟩; omega) hk.1 hk.2.2]; exact hl
    · intro c k w h1 h2
      rcases key c k w h1 h2 with ⟨-, e, -⟩ | ⟨h3, -⟩
      · omega
      · exact hmax c k w h3 h2
  · cases h with
    | true =>
      left
      refine ⟨b, m, u, hres, hx, by rw [look_at ⟨rfl, rfl⟩]; rfl, ?_⟩
      intro c k w h1 h2
      rcases key c k w h1 h2 with ⟨-, e, -⟩ | ⟨h3, -⟩
      · omega
      · exact absurd h2 (fun h => hno c k w h3 h)
    | false =>
      right
      refine ⟨hres, ?_⟩
      intro c k w h1 h2
      rcases key c k w h1 h2 with ⟨-, -, e, -⟩ | ⟨h3, -⟩
      · cases e
      · exact hno c k w h3 h2

theorem mt_ok (t : Tr) (x : Int) (hw : WF t) (acc : Option (Int × Int × Int)) :
    (∃ b m u, mt t x acc = some (b, m, u) ∧ cov b m x 32 = true ∧ look t b m = some u ∧ ∀ c k w, look t c k = some w → cov c k x 32 = true → k ≤ m) ∨ (mt t x acc = acc ∧ ∀ c k w, look t c k = some w → cov c k x 32 = true → False) := by
  induction t generalizing acc with
  | nil => exact .inr ⟨rfl, fun c k w h => by cases h⟩
  | node b m u h l r il ir =>
    obtain ⟨hv, hb, r0, r1, w0, w1⟩ := hw
    by_cases hx : cov b m x 32 = true
    · by_cases hs : sdI x m = 0
      · have e : mt (.node b m u h l r) x acc = mt l x (if h = true then some (b, m, u) else acc) := by
          conv => lhs; unfold mt
          rw [if_pos hx, if_pos hs]
        rw [e]
        exact mt_kid (s := 0) (.inl rfl) hv r0 (fun c k ne hc hs2 => look_l ne hc hs2) hx (fun _ => hs) acc _ (il w0 _)
      · have e : mt (.node b m u h l r) x acc = mt r x (if h = true then some (b, m, u) else acc) := by
          conv => lhs; unfold mt
          rw [if_pos hx, if_neg hs]
        rw [e]
        exact mt_kid (s := 1) (.inr rfl) hv r1 (fun c k ne hc hs2 => look_r ne hc (by rw [hs2]; decide)) hx (fun _ => by rcases sdI_01 x m with h | h; exact absurd h hs; exact h) acc _ (ir w1 _)
    · right
      refine ⟨by unfold mt; rw [if_neg hx], fun c k w h1 h2 => ?_⟩
      by_cases e : b = c ∧ m = k
      · obtain ⟨rfl, rfl⟩ := e; exact hx h2
      · by_cases h3 : cov b m c k = true
        · exact hx (cov_trans h3 h2)
        · rw [look_none e h3] at h1; cases h1
end Go.Proofs.Ytibmhdfodmkahaa.TrM
