/- The document's damper, plain; how it stands beside the program's. -/
import Derived.Test.YtjfiahendnlcjaaDaN
namespace Go.Proofs.Ytjfiahendnlcjaa.Da
open Go.Proofs.Ytjfiahendnlcjaa.Ge Go.Proofs.Ytjfiahendnlcjaa.PM
set_option linter.unusedVariables false
set_option linter.unusedSimpArgs false

theorem half_le {half w r : Nat} (hr : r ≤ half) : w / 2 ≤ w - (w - w / 2) * r / half := by
  have h1 : (w - w / 2) * r / half ≤ w - w / 2 := by
    rcases Nat.eq_zero_or_pos half with h0 | h0
    · rw [h0, Nat.div_zero]; exact Nat.zero_le _
    · exact Nat.div_le_of_le_mul (by rw [Nat.mul_comm half]; exact Nat.mul_le_mul_left _ hr)
  omega
/-- a penalty does not grow by itself -/
theorem atP_anti {half v s t : Nat} (hh : 1 ≤ half) (hst : s ≤ t) : atP half v t ≤ atP half v s := by
  unfold atP
  have hq : s / half ≤ t / half := Nat.div_le_div_right hst
  rcases Nat.eq_or_lt_of_le hq with he | hl
  · rw [← he]
    have hr : s % half ≤ t % half := by
      have h1 := Nat.div_add_mod s half
      have h2 := Nat.div_add_mod t half
      rw [← he] at h2
      omega
    exact Nat.sub_le_sub_left (Nat.div_le_div_right (Nat.mul_le_mul_left _ hr)) _
  · refine Nat.le_trans (Nat.sub_le _ _) ?_
    refine Nat.le_trans ?_ (half_le (Nat.le_of_lt (Nat.mod_lt _ hh)))
    rw [Nat.div_div_eq_div_mul, ← Nat.pow_succ]
    exact Nat.div_le_div_left (Nat.pow_le_pow_right (by decide) hl) (Nat.two_pow_pos _)
/-- a mark of the document's -/
structure DM where
  p : Pf
  v : Nat
  s : Nat
  h : Bool
  due : Bool
def dget (L : List DM) (p : Pf) : Option DM := L.find? (fun m => decide (m.p = p))
def dfn (L : List DM) (p : Pf) : Option Pn := (dget L p).map (fun m => ⟨m.v, m.s, m.h⟩)
def ddue (L : List DM) (p : Pf) : Bool := ((dget L p).map (·.due)).getD false
def DNd (L : List DM) : Prop := (L.map (·.p)).Nodup
theorem dget_mem {L : List DM} {p : Pf} {m : DM} (h : dget L p = some m) : m ∈ L ∧ m.p = p := ⟨List.mem_of_find?_eq_some h, by simpa using List.find?_some h⟩
theorem dget_of {L : List DM} (hn : DNd L) {m : DM} (hm : m ∈ L) : dget L m.p = some m := by
  induction L with
  | nil => cases hm
  | cons a L ih =>
    unfold DNd at hn
    rw [List.map_cons, List.nodup_cons] at hn
    unfold dget
    rw [List.find?_cons]
    by_cases he : a.p = m.p
    · rw [decide_eq_true he]
      rcases List.mem_cons.1 hm with rfl | h2
      · rfl
      · exact absurd (List.mem_map.2 ⟨m, h2, he.symm⟩) hn.1
    · rw [decide_eq_false he]
      rcases List.mem_cons.1 hm with rfl | h2
      · exact absurd rfl he
      · exact ih hn.2 h2
theorem dget_app (L : List DM) (m : DM) (q : Pf) : dget (L ++ [m]) q = (dget L q).or (if m.p = q then some m else none) := by
  unfold dget
  rw [List.find?_append]
  simp only [List.find?_cons, List.find?_nil]
  by_cases h : m.p = q
  · simp [h]
  · simp [h]
theorem dget_del (L : List DM) (p q : Pf) : dget (L.filter (fun m => decide (m.p ≠ p))) q = if q = p then none else dget L q := by
  unfold dget
  induction L with
  | nil => simp
  | cons a L ih =>
    by_cases ha : a.p = p
    · rw [List.filter_cons_of_neg (by simp [ha]), ih, List.find?_cons]
      by_cases hq : q = p
      · simp [hq]
      · have : ¬ a.p = q := fun e => hq (e.symm.trans ha)
        simp [hq, this]
    · rw [List.filter_cons_of_pos (by simp [ha]), List.find?_cons, List.find?_cons]
      by_cases haq : a.p = q
      · have : ¬ q = p := fun e => ha (haq.trans e)
        simp [haq, this]
      · rw [decide_eq_false haq]; exact ih
/-- a mark is put in the place of the old one -/
def dput (L : List DM) (m : DM) : List DM := L.filter (fun x => decide (x.p ≠ m.p)) ++ [m]
theorem dget_put (L : List DM) (m : DM) (q : Pf) : dget (dput L m) q = if q = m.p then some m else dget L q := by
  unfold dput
  rw [dget_app, dget_del]
  by_cases h : q = m.p
  · rw [if_pos h, if_pos h, if_pos h.symm]; rfl
  · rw [if_neg h, if_neg h, if_neg (Ne.symm h)]; cases dget L q <;> rfl
theorem dput_nd {L : List DM} (h : DNd L) (m : DM) : DNd (dput L m) := by
  unfold DNd dput at *
  rw [List.map_append, List.nodup_append]
  refine ⟨h.sublist (List.filter_sublist.map _), by simp, ?_⟩
  intro a ha b hb e
  obtain ⟨x, hx, rfl⟩ := List.mem_map.1 ha
  have := (List.mem_filter.1 hx).2
  rw [List.map_singleton, List.mem_singleton] at hb
  simp at this
  exact this (e.trans hb)
/-- both stand alike -/
structure Rd (c : Dc) (es : Ents Pf Pn) (us : Ents Pf Unit) (L : List DM) : Prop where
  nd : DNd L
  bd : ∀ m ∈ L, m.v ≤ c.most ∧ m.s ≤ c.clock
  pen : ∀ p t, c.clock ≤ t → penP c (mget es) p t = penP c (dfn L) p t
  hld : ∀ p t, c.clock ≤ t → heldP c (mget es) p t = heldP c (dfn L) p t
  due : ∀ p, (mget us p).isSome = ddue L p
  inv : ∀ p, heldP c (dfn L) p c.clock = true → ddue L p = true
theorem dfn_bd {c : Dc} {L : List DM} (h : ∀ m ∈ L, m.v ≤ c.most ∧ m.s ≤ c.clock) (p : Pf) : (pn (dfn L) p).v ≤ c.most ∧ (pn (dfn L) p).s ≤ c.clock := by
  unfold pn dfn
  cases hg : dget L p with
  | none => exact ⟨Nat.zero_le _, Nat.zero_le _⟩
  | some m => exact h m (dget_mem hg).1
theorem penP_anti {c : Dc} (hc : DcOk c) (f : Pf → Option Pn) (p : Pf) {s t : Nat} (h : s ≤ t) : penP c f p t ≤ penP c f p s := by
  unfold penP
  exact atP_anti hc.half.1 (by omega)
theorem heldP_anti {c : Dc} (hc : DcOk c) (f : Pf → Option Pn) (p : Pf) {s t : Nat} (h : s ≤ t) (ht : heldP c f p t = true) : heldP c f p s = true := by
  unfold heldP at *
  rw [Bool.and_eq_true] at *
  have := penP_anti hc f p h
  exact ⟨ht.1, decide_eq_true (by have := of_decide_eq_true ht.2; omega)⟩
/-- what is not kept any more is nothing -/
theorem live_pen {c : Dc} (hc : DcOk c) {es : Ents Pf Pn} {ce : Nat} (ok : Mok es ce) (p : Pf) {t u : Nat} (h : t ≤ u) : penP (clkD c t) (mget (liveP c es t)) p u = penP c (mget es) p u ∧ heldP (clkD c t) (mget (liveP c es t)) p u = heldP c (mget es) p u := by
  have e := mget_filter ok (fun _ v => !decide (atP c.half v.v (t - v.s) = 0)) p
  have e2 : liveP c es t = es.filter (fun x => (fun (_ : Pf) (v : Pn) => !decide (atP c.half v.v (t - v.s) = 0)) x.1 x.2.1) := rfl
  rw [← e2] at e
  have key : penP c (mget (liveP c es t)) p u = penP c (mget es) p u ∧ heldP c (mget (liveP c es t)) p u = heldP c (mget es) p u := by
    cases hm : mget es p with
    | none =>
      rw [hm] at e
      unfold heldP penP pn
      rw [e, hm]
      exact ⟨rfl, rfl⟩
    | some x =>
      rw [hm] at e
      by_cases hd : atP c.half x.v (t - x.s) = 0
      · have e3 : mget (liveP c es t) p = none := by rw [e]; simp [Option.filter, hd]
        have h0 : atP c.half x.v (u - x.s) = 0 := by
          have := atP_anti (v := x.v) hc.half.1 (show t - x.s ≤ u - x.s by omega)
          omega
        unfold heldP penP pn
        rw [e3, hm]
        show atP c.half 0 (u - 0) = atP c.half x.v (u - x.s) ∧ false = (x.h && decide (c.reuse ≤ atP c.half x.v (u - x.s)))
        rw [h0]
        have hr : ¬ c.reuse ≤ 0 := by have := hc.reuse.1; omega
        refine ⟨by unfold atP; simp, ?_⟩
        rw [decide_eq_false hr, Bool.and_false]
      · have e3 : mget (liveP c es t) p = some x := by rw [e]; simp [Option.filter, hd]
        unfold heldP penP pn
        rw [e3, hm]
        exact ⟨rfl, rfl⟩
  exact key
theorem Rd.clk {c : Dc} (hc : DcOk c) {es : Ents Pf Pn} {ce : Nat} {us : Ents Pf Unit} {L : List DM} (h : Rd c es us L) (ok : Mok es ce) {t : Nat} (ht : c.clock ≤ t) : Rd (clkD c t) (liveP c es t) us L :=
  ⟨h.nd, fun m hm => ⟨(h.bd m hm).1, Nat.le_trans (h.bd m hm).2 ht⟩, fun p u hu => by rw [(live_pen hc ok p (t := t) hu).1]; exact h.pen p u (Nat.le_trans ht hu), fun p u hu => by rw [(live_pen hc ok p (t := t) hu).2]; exact h.hld p u (Nat.le_trans ht hu), h.due, fun p hp => h.inv p (heldP_anti hc (dfn L) p ht hp)⟩
/-- how many others have a penalty -/
def othP (c : Dc) (L : List DM) (p : Pf) (now : Nat) : Nat := L.countP (fun m => decide (m.p ≠ p ∧ 0 < penP c (dfn L) m.p now))
theorem Rd.cnt {c : Dc} {es : Ents Pf Pn} {ce : Nat} {us : Ents Pf Unit} {L : List DM} (h : Rd c es us L) (ok : Mok es ce) {p : Pf} {now : Nat} (hn : c.clock ≤ now) (h0 : penP c (mget es) p now = 0) : cntP c es now = othP c L p now := by
  have n1 : ((es.filter (fun x => decide (0 < atX c now x))).map (·.1)).Nodup := ok.nk.sublist (List.filter_sublist.map _)
  have n2 : ((L.filter (fun m => decide (m.p ≠ p ∧ 0 < penP c (dfn L) m.p now))).map (·.p)).Nodup := List.Nodup.sublist (List.filter_sublist.map _) h.nd
  have hp : ((es.filter (fun x => decide (0 < atX c now x))).map (·.1)).Perm ((L.filter (fun m => decide (m.p ≠ p ∧ 0 < penP c (dfn L) m.p now))).map (·.p)) := by
    rw [List.perm_ext_iff_of_nodup n1 n2]
    intro q
    constructor
    · intro hq
      obtain ⟨x, hx, rfl⟩ := List.mem_map.1 hq
      obtain ⟨hx1, hx2⟩ := List.mem_filter.1 hx
      have hx3 := of_decide_eq_true hx2
      have e1 : penP c (mget es) x.1 now = atX c now x := by unfold penP pn atX; rw [mget_of_mem ok hx1]; rfl
      have e2 : 0 < penP c (dfn L) x.1 now := by rw [← h.pen x.1 now hn, e1]; exact hx3
      cases hg : dget L x.1 with
      | none =>
        have : penP c (dfn L) x.1 now = 0 := by unfold penP pn dfn; rw [hg]; show atP c.half 0 _ = 0; unfold atP; simp
        omega
      | some m =>
        obtain ⟨hm, e3⟩ := dget_mem hg
        refine List.mem_map.2 ⟨m, List.mem_filter.2 ⟨hm, decide_eq_true ⟨fun e => ?_, by rw [e3]; exact e2⟩⟩, e3⟩
        rw [e3] at e
        rw [← h.pen x.1 now hn, e, h0] at e2
        omega
    · intro hq
      obtain ⟨m, hm, rfl⟩ := List.mem_map.1 hq
      obtain ⟨hm1, hm2⟩ := List.mem_filter.1 hm
      have hm3 := of_decide_eq_true hm2
      have e1 : 0 < penP c (mget es) m.p now := by rw [h.pen m.p now hn]; exact hm3.2
      cases hg : mget es m.p with
      | none =>
        have : penP c (mget es) m.p now = 0 := by unfold penP pn; rw [hg]; show atP c.half 0 _ = 0; unfold atP; simp
        omega
      | some x =>
        obtain ⟨y, hy, e2, e3⟩ := mem_of_mget hg
        refine List.mem_map.2 ⟨y, List.mem_filter.2 ⟨hy, decide_eq_true ?_⟩, e2⟩
        have e4 : penP c (mget es) m.p now = atX c now y := by unfold penP pn atX; rw [hg, ← e3]; rfl
        rw [← e4]; exact e1
  have := hp.length_eq
  rw [List.length_map, List.length_map] at this
  unfold cntP othP
  rw [List.countP_eq_length_filter, List.countP_eq_length_filter]
  exact this
end Go.Proofs.Ytjfiahendnlcjaa.Da
