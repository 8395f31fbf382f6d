/- Many puts, many drops, and the longest match behind them: plain trees. -/
import Derived.Test.YtibmhdfodmkahaaTrQ
namespace Go.Proofs.Ytibmhdfodmkahaa.TrM
open Go.Proofs.Ytibmhdfodmkahaa.PM

def put1 (t : Tr) (x : Int × Int × Int) : Tr := if vld x.1 x.2.1 = true then ins t x.1 x.2.1 x.2.2 else t
def putAll (t : Tr) (ps : List (Int × Int × Int)) : Tr := ps.foldl put1 t
def dropAll (t : Tr) (ds : List (Int × Int)) : Tr := ds.foldl (fun t d => (del t d.1 d.2).1) t
def In32 (x : Int) : Prop := 0 ≤ x ∧ x < 4294967296

theorem wf_put1 {t : Tr} {x : Int × Int × Int} (hw : WF t) (hx : In32 x.1) : WF (put1 t x) := by
  unfold put1; split
  · rename_i h; exact wf_ins hw h hx.1 hx.2
  · exact hw
theorem wf_putAll {t : Tr} (ps : List (Int × Int × Int)) (hw : WF t) (h : ∀ x ∈ ps, In32 x.1) : WF (putAll t ps) := by
  induction ps generalizing t with
  | nil => exact hw
  | cons x xs ih => exact ih (wf_put1 hw (h x (by simp))) (fun y hy => h y (by simp [hy]))
theorem wf_dropAll {t : Tr} (ds : List (Int × Int)) (hw : WF t) : WF (dropAll t ds) := by
  induction ds generalizing t with
  | nil => exact hw
  | cons x xs ih => exact ih (del_ok t x.1 x.2 hw).1

/-- what was put last -/
def lp1 (c k : Int) (acc : Option Int) (x : Int × Int × Int) : Option Int := if x.1 = c ∧ x.2.1 = k ∧ vld x.1 x.2.1 = true then some x.2.2 else acc
def lp (c k : Int) (acc : Option Int) (ps : List (Int × Int × Int)) : Option Int := ps.foldl (lp1 c k) acc

theorem look_put1 {t : Tr} {x : Int × Int × Int} (hw : WF t) (hx : In32 x.1) (c k : Int) : look (put1 t x) c k = lp1 c k (look t c k) x := by
  unfold put1 lp1
  by_cases hv : vld x.1 x.2.1 = true
  · rw [if_pos hv]
    by_cases e : x.1 = c ∧ x.2.1 = k
    · rw [if_pos ⟨e.1, e.2, hv⟩, ← e.1, ← e.2]; exact look_put hw hv hx.1 hx.2
    · rw [if_neg (fun h => e ⟨h.1, h.2.1⟩)]; exact look_else hw hv hx.1 hx.2 (fun h => e ⟨h.1.symm, h.2.symm⟩)
  · rw [if_neg hv, if_neg (fun h => hv h.2.2)]
theorem look_putAll {t : Tr} (ps : List (Int × Int × Int)) (hw : WF t) (h : ∀ x ∈ ps, In32 x.1) (c k : Int) : look (putAll t ps) c k = lp c k (look t c k) ps := by
  induction ps generalizing t with
  | nil => rfl
  | cons x xs ih =>
    have h1 := ih (t := put1 t x) (wf_put1 hw (h x (by simp))) (fun y hy => h y (by simp [hy]))
    show look (putAll (put1 t x) xs) c k = lp c k (lp1 c k (look t c k) x) xs
    rw [h1, look_put1 hw (h x (by simp))]
theorem look_dropAll {t : Tr} (ds : List (Int × Int)) (hw : WF t) (c k : Int) : look (dropAll t ds) c k = if (c, k) ∈ ds then none else look t c k := by
  induction ds generalizing t with
  | nil => simp [dropAll]
  | cons x xs ih =>
    obtain ⟨w1, -, h1, h2, -⟩ := del_ok t x.1 x.2 hw
    have h3 := ih (t := (del t x.1 x.2).1) w1
    show look (dropAll (del t x.1 x.2).1 xs) c k = _
    rw [h3]
    by_cases hm : (c, k) ∈ xs
    · rw [if_pos hm, if_pos (by simp [hm])]
    · rw [if_neg hm]
      by_cases e : c = x.1 ∧ k = x.2
      · rw [if_pos (by simp [e]), e.1, e.2, h2]
      · rw [if_neg (by intro h; rcases List.mem_cons.1 h with h | h
                       · exact e ⟨congrArg Prod.fst h, congrArg Prod.snd h⟩
                       · exact hm h), h1 c k e]

theorem lp_keep {c k : Int} {acc : Option Int} {ps : List (Int × Int × Int)} (h : ∀ y ∈ ps, ¬ (y.1 = c ∧ y.2.1 = k)) : lp c k acc ps = acc := by
  induction ps generalizing acc with
  | nil => rfl
  | cons x xs ih =>
    show lp c k (lp1 c k acc x) xs = acc
    have : lp1 c k acc x = acc := by unfold lp1; rw [if_neg (fun e => h x (by simp) ⟨e.1, e.2.1⟩)]
    rw [this]; exact ih (fun y hy => h y (by simp [hy]))
theorem lp_some {c k : Int} {ps : List (Int × Int × Int)} {u : Int} : ∀ {acc : Option Int}, acc = none → lp c k acc ps = some u → ∃ y ∈ ps, y.1 = c ∧ y.2.1 = k := by
  intro acc ha h
  by_cases hn : ∃ y ∈ ps, y.1 = c ∧ y.2.1 = k
  · exact hn
  · rw [lp_keep (fun y hy e => hn ⟨y, hy, e⟩), ha] at h; cases h
theorem lp_last {c k : Int} {pre suf : List (Int × Int × Int)} {y : Int × Int × Int} (acc : Option Int) (e : y.1 = c ∧ y.2.1 = k) (hv : vld c k = true) (h : ∀ z ∈ suf, ¬ (z.1 = c ∧ z.2.1 = k)) : lp c k acc (pre ++ y :: suf) = some y.2.2 := by
  have h1 : lp c k acc (pre ++ y :: suf) = lp c k (lp1 c k (lp c k acc pre) y) suf := by simp [lp]
  rw [h1, lp_keep h]
  unfold lp1; rw [if_pos ⟨e.1, e.2, by rw [e.1, e.2]; exact hv⟩]
theorem lp_mem {c k : Int} {ps : List (Int × Int × Int)} (hv : vld c k = true) : ∀ {acc : Option Int}, (acc ≠ none ∨ ∃ y ∈ ps, y.1 = c ∧ y.2.1 = k) → lp c k acc ps ≠ none := by
  induction ps with
  | nil => intro acc h; rcases h with h | ⟨y, hy, _⟩
           · exact h
           · cases hy
  | cons x xs ih =>
    intro acc h
    show lp c k (lp1 c k acc x) xs ≠ none
    by_cases e : x.1 = c ∧ x.2.1 = k
    · have : lp1 c k acc x = some x.2.2 := by unfold lp1; rw [if_pos ⟨e.1, e.2, by rw [e.1, e.2]; exact hv⟩]
      rw [this]; exact ih (.inl (by simp))
    · have : lp1 c k acc x = acc := by unfold lp1; rw [if_neg (fun h => e ⟨h.1, h.2.1⟩)]
      rw [this]
      refine ih ?_
      rcases h with h | ⟨y, hy, hk⟩
      · exact .inl h
      · rcases List.mem_cons.1 hy with rfl | hy
        · exact absurd hk e
        · exact .inr ⟨y, hy, hk⟩

theorem has_cov (a n x : Int) : has a n x = cov a n x 32 := by
  have hp : psz 32 = 1 := by decide
  cases h : has a n x with
  | true =>
    have h2 : vld a n = true := by unfold has at h; simp at h; exact h.1
    have := (vld_iff a n).1 h2
    unfold cov; rw [h, (vld_iff x 32).2 ⟨by decide, by decide, by rw [hp]; omega⟩]; simp; omega
  | false => unfold cov; rw [h]; simp

/-- the longest match behind many puts and drops -/
theorem longest (ps : List (Int × Int × Int)) (ds : List (Int × Int)) (x : Int) (h : ∀ y ∈ ps, In32 y.1) :
    (mt (dropAll (putAll .nil ps) ds) x none = none ∧ ∀ y ∈ ps, has y.1 y.2.1 x = true → (y.1, y.2.1) ∈ ds) ∨
    (∃ b m u, mt (dropAll (putAll .nil ps) ds) x none = some (b, m, u) ∧ has b m x = true ∧ (b, m) ∉ ds ∧ vld b m = true ∧ lp b m none ps = some u ∧ ∀ y ∈ ps, has y.1 y.2.1 x = true → (y.1, y.2.1) ∉ ds → y.2.1 ≤ m) := by
  have w1 : WF (putAll .nil ps) := wf_putAll ps trivial h
  have w2 := wf_dropAll ds w1
  have lk : ∀ c k, look (dropAll (putAll .nil ps) ds) c k = if (c, k) ∈ ds then none else lp c k none ps := by
    intro c k; rw [look_dropAll ds w1, look_putAll (t := .nil) ps trivial h]; rfl
  rcases mt_ok (dropAll (putAll .nil ps) ds) x w2 none with ⟨b, m, u, e, hc, hl, hmax⟩ | ⟨e, hno⟩
  · right
    rw [lk] at hl
    have hd : (b, m) ∉ ds := by intro hd; rw [if_pos hd] at hl; cases hl
    rw [if_neg hd] at hl
    refine ⟨b, m, u, e, by rw [has_cov]; exact hc, hd, (cov_vld hc).1, hl, fun y hy hh hn => ?_⟩
    have hv : vld y.1 y.2.1 = true := by rw [has_cov] at hh; exact (cov_vld hh).1
    cases hlp : lp y.1 y.2.1 none ps with
    | none => exact absurd hlp (lp_mem hv (.inr ⟨y, hy, rfl, rfl⟩))
    | some w => exact hmax y.1 y.2.1 w (by rw [lk, if_neg hn, hlp]) (by rw [← has_cov]; exact hh)
  · left
    refine ⟨e, fun y hy hh => ?_⟩
    by_cases hn : (y.1, y.2.1) ∈ ds
    · exact hn
    · exfalso
      have hv : vld y.1 y.2.1 = true := by rw [has_cov] at hh; exact (cov_vld hh).1
      cases hlp : lp y.1 y.2.1 none ps with
      | none => exact absurd hlp (lp_mem hv (.inr ⟨y, hy, rfl, rfl⟩))
      | some w => exact hno y.1 y.2.1 w (by rw [lk, if_neg hn, hlp]) (by rw [← has_cov]; exact hh)

/-- what the statement reckons, from the end -/
structure Fine (ps : List (Int × Int × Int)) (ds : List (Int × Int)) (x b m u : Int) (found : Bool) : Prop where
  none_ : found = false → ∀ y ∈ ps, has y.1 y.2.1 x = true → (y.1, y.2.1) ∈ ds
  len : found = true → ∀ y ∈ ps, has y.1 y.2.1 x = true → (y.1, y.2.1) ∉ ds → y.2.1 ≤ m
  last : found = true → ∀ pre y suf, ps = pre ++ y :: suf → y.1 = b → y.2.1 = m → (∀ z ∈ suf, ¬ (z.1 = b ∧ z.2.1 = m)) → y.2.2 = u
  is : found = true → ∃ y ∈ ps, y.1 = b ∧ y.2.1 = m
  holds : found = true → has b m x = true ∧ (b, m) ∉ ds

def mA (r : Option (Int × Int × Int)) : Int := match r with | some y => y.1 | none => 0
def mN (r : Option (Int × Int × Int)) : Int := match r with | some y => y.2.1 | none => 0
def mV (r : Option (Int × Int × Int)) : Int := match r with | some y => y.2.2 | none => 0

theorem fine (ps : List (Int × Int × Int)) (ds : List (Int × Int)) (x : Int) (h : ∀ y ∈ ps, In32 y.1) (r : Option (Int × Int × Int)) (hr : mt (dropAll (putAll .nil ps) ds) x none = r) :
    Fine ps ds x (mA r) (mN r) (mV r) r.isSome := by
  rcases longest ps ds x h with ⟨e, h1⟩ | ⟨b, m, u, e, hh, hd, hv, hl, hmax⟩
  · rw [e] at hr; subst hr
    exact ⟨fun _ => h1, fun h => (by cases h), fun h => (by cases h), fun h => (by cases h), fun h => (by cases h)⟩
  · rw [e] at hr; subst hr
    refine ⟨fun h => (by cases h), fun _ => hmax, fun _ pre y suf hps e1 e2 hz => ?_, fun _ => lp_some rfl hl, fun _ => ⟨hh, hd⟩⟩
    have := lp_last (pre := pre) (suf := suf) (y := y) (c := b) (k := m) none ⟨e1, e2⟩ hv hz
    rw [← hps, hl] at this
    exact (Option.some.inj this).symm
end Go.Proofs.Ytibmhdfodmkahaa.TrM
