/- The document's damper, plain: Flap and Freed. -/
import Derived.Test.YtjfiahendnlcjaaDqA
namespace Go.Proofs.Ytjfiahendnlcjaa.Da
open Go.Proofs.Ytjfiahendnlcjaa.Ge Go.Proofs.Ytjfiahendnlcjaa.PM
set_option linter.unusedVariables false
set_option linter.unusedSimpArgs false

/-- why the document refuses a flap -/
def chkQ (c : Dc) (L : List DM) (p : Pf) (what now : Int) : Int :=
  if vld p.1 p.2 = false then 3 else if ¬ (1 ≤ what ∧ what ≤ 3) then 13 else if ¬ ((c.clock : Int) ≤ now ∧ now ≤ 1099511627776) then 2
  else if penP c (dfn L) p now.toNat = 0 ∧ 64 ≤ othP c L p now.toNat then 12 else 0
theorem Rd.chk {c : Dc} {es : Ents Pf Pn} {ce : Nat} {us : Ents Pf Unit} {L : List DM} (h : Rd c es us L) (ok : Mok es ce) (p : Pf) (what now : Int) : chkP c es p what now = chkQ c L p what now := by
  unfold chkP chkQ
  split
  · rfl
  · split
    · rfl
    · split
      · rfl
      · rename_i h3
        have h4 := Decidable.not_not.1 h3
        have hn : c.clock ≤ now.toNat := by omega
        rw [← h.pen p now.toNat hn]
        by_cases h0 : penP c (mget es) p now.toNat = 0
        · rw [h.cnt ok hn h0]
        · rw [if_neg (fun k => h0 k.1), if_neg (fun k => h0 k.1)]
/-- the mark that a flap lays -/
def fmk (c : Dc) (L : List DM) (p : Pf) (what : Int) (t : Nat) : DM := ⟨p, valP c (dfn L) p what t, t, hldP c (dfn L) p what t, ddue L p || decide (c.limit ≤ valP c (dfn L) p what t)⟩
theorem atP_0 (half t : Nat) : atP half 0 t = 0 := by unfold atP; simp
theorem Rd.flap {c : Dc} (hc : DcOk c) {es : Ents Pf Pn} {ce : Nat} {us : Ents Pf Unit} {cu : Nat} {L : List DM} (h : Rd c es us L) (ok : Mok es ce) (p : Pf) (what : Int) {t : Nat} (ht : c.clock ≤ t) : Rd (clkD c t) (flE c es ce p t (valP c (mget es) p what t) (hldP c (mget es) p what t)) (flU us cu p (hldP c (mget es) p what t)) (dput L (fmk c L p what t)) := by
  have ev : valP c (mget es) p what t = valP c (dfn L) p what t := by unfold valP; rw [h.pen p t ht]
  have eh : hldP c (mget es) p what t = hldP c (dfn L) p what t := by unfold hldP; rw [h.hld p t ht, ev]
  have hr := h.clk hc ok ht
  have hfh := flap_held hc ok p what t
  rw [ev, eh] at *
  have hcd : DcOk (clkD c t) ∨ True := .inr trivial
  have edf : ∀ q, dfn (dput L (fmk c L p what t)) q = if q = p then some ⟨valP c (dfn L) p what t, t, hldP c (dfn L) p what t⟩ else dfn L q := fun q => by
    unfold dfn
    rw [dget_put]
    by_cases hq : q = p
    · rw [if_pos (show q = (fmk c L p what t).p from hq), if_pos hq]; rfl
    · rw [if_neg (show ¬ q = (fmk c L p what t).p from hq), if_neg hq]
  have edu : ∀ q, ddue (dput L (fmk c L p what t)) q = if q = p then (ddue L p || decide (c.limit ≤ valP c (dfn L) p what t)) else ddue L q := fun q => by
    unfold ddue
    rw [dget_put]
    by_cases hq : q = p
    · rw [if_pos (show q = (fmk c L p what t).p from hq), if_pos hq]; rfl
    · rw [if_neg (show ¬ q = (fmk c L p what t).p from hq), if_neg hq]
  have key : ∀ q u, t ≤ u → penP c (mget (flE c es ce p t (valP c (dfn L) p what t) (hldP c (dfn L) p what t))) q u = penP c (dfn (dput L (fmk c L p what t))) q u ∧ heldP c (mget (flE c es ce p t (valP c (dfn L) p what t) (hldP c (dfn L) p what t))) q u = heldP c (dfn (dput L (fmk c L p what t))) q u := fun q u hu => by
    by_cases hq : q = p
    · subst hq
      by_cases hv : 0 < valP c (dfn L) q what t
      · have e1 : mget (flE c es ce q t (valP c (dfn L) q what t) (hldP c (dfn L) q what t)) q = some ⟨valP c (dfn L) q what t, t, hldP c (dfn L) q what t⟩ := by unfold flE; rw [if_pos hv, mput_get, if_pos rfl]
        unfold heldP penP pn
        rw [e1, edf, if_pos rfl]
        exact ⟨rfl, rfl⟩
      · have hv0 : valP c (dfn L) q what t = 0 := by omega
        have e1 : flE c es ce q t (valP c (dfn L) q what t) (hldP c (dfn L) q what t) = liveP c es t := by unfold flE; rw [if_neg hv]
        rw [e1]
        have hp0 : penP c (dfn L) q t = 0 := by
          unfold valP at hv0
          have := hc.reuse; have := hc.most
          omega
        have hpu : penP c (mget (liveP c es t)) q u = 0 := by
          have h5 := (live_pen hc ok q hu).1
          have h6 := penP_anti hc (mget es) q hu
          rw [h.pen q t ht, hp0] at h6
          have h7 : penP (clkD c t) (mget (liveP c es t)) q u = penP c (mget (liveP c es t)) q u := rfl
          omega
        have e2 : penP c (dfn (dput L (fmk c L q what t))) q u = 0 := by
          unfold penP pn
          rw [edf, if_pos rfl]
          show atP c.half (valP c (dfn L) q what t) _ = 0
          rw [hv0, atP_0]
        have hr0 : ¬ c.reuse ≤ 0 := by have := hc.reuse; omega
        refine ⟨by rw [hpu, e2], ?_⟩
        unfold heldP
        rw [hpu, e2, decide_eq_false hr0, Bool.and_false, Bool.and_false]
    · have e1 : mget (flE c es ce p t (valP c (dfn L) p what t) (hldP c (dfn L) p what t)) q = mget (liveP c es t) q := by
        unfold flE
        split
        · rw [mput_get, if_neg hq]
        · rfl
      have e2 : dfn (dput L (fmk c L p what t)) q = dfn L q := by rw [edf, if_neg hq]
      have h5 := hr.pen q u hu
      have h6 := hr.hld q u hu
      unfold heldP penP pn at h5 h6 ⊢
      rw [e1, e2]
      exact ⟨h5, h6⟩
  have hpp : heldP c (dfn (dput L (fmk c L p what t))) p t = hldP c (dfn L) p what t := by rw [← (key p t (Nat.le_refl _)).2]; exact hfh
  have hdd : hldP c (dfn L) p what t = true → (ddue L p || decide (c.limit ≤ valP c (dfn L) p what t)) = true := fun hx => by
    unfold hldP at hx
    rcases (Bool.or_eq_true _ _).mp hx with hx | hx
    · rw [h.inv p (heldP_anti hc (dfn L) p ht hx)]; rfl
    · rw [hx, Bool.or_true]
  refine ⟨dput_nd h.nd _, fun m hm => ?_, fun q u hu => (key q u hu).1, fun q u hu => (key q u hu).2, fun q => ?_, fun q hq => ?_⟩
  · have h5 := dget_of (dput_nd h.nd (fmk c L p what t)) hm
    rw [dget_put] at h5
    split at h5
    · cases h5
      exact ⟨by show valP c (dfn L) p what t ≤ c.most; unfold valP; omega, Nat.le_refl _⟩
    · exact hr.bd m (dget_mem h5).1
  · rw [edu]
    have hdu := h.due q
    unfold flU
    by_cases hq : q = p
    · subst hq
      rw [if_pos rfl]
      cases hh : hldP c (dfn L) q what t with
      | true => rw [if_pos rfl, mput_get, if_pos rfl, hdd hh]; rfl
      | false =>
        have : decide (c.limit ≤ valP c (dfn L) q what t) = false := by
          unfold hldP at hh
          exact ((Bool.or_eq_false_iff).mp hh).2
        rw [if_neg (by decide), this, Bool.or_false]
        exact hdu
    · rw [if_neg hq]
      split
      · rw [mput_get, if_neg hq]; exact hdu
      · exact hdu
  · rw [edu]
    have hq2 : heldP c (dfn (dput L (fmk c L p what t))) q t = true := hq
    by_cases he : q = p
    · subst he
      rw [if_pos rfl]
      rw [hpp] at hq2
      exact hdd hq2
    · rw [if_neg he]
      have e2 : dfn (dput L (fmk c L p what t)) q = dfn L q := by rw [edf, if_neg he]
      refine hr.inv q ?_
      show heldP c (dfn L) q t = true
      unfold heldP penP pn at hq2 ⊢
      rw [e2] at hq2
      exact hq2
/-- is a mark told by Freed? -/
def frM (c : Dc) (L : List DM) (t : Nat) (m : DM) : Bool := m.due && !heldP c (dfn L) m.p t
def frL (c : Dc) (L : List DM) (t : Nat) : List DM := L.map (fun m => if frM c L t m = true then { m with due := false } else m)
def frO (c : Dc) (L : List DM) (t : Nat) : List Pf := (L.filter (frM c L t)).map (·.p)
theorem dget_map (L : List DM) (f : DM → DM) (hf : ∀ m, (f m).p = m.p) (q : Pf) : dget (L.map f) q = (dget L q).map f := by
  unfold dget
  rw [List.find?_map]
  congr 1
  apply congrArg (fun g => List.find? g L)
  funext m
  simp [hf]
theorem frL_get (c : Dc) (L : List DM) (t : Nat) (q : Pf) : dget (frL c L t) q = (dget L q).map (fun m => if frM c L t m = true then { m with due := false } else m) := dget_map L _ (fun m => by split <;> rfl) q
theorem frL_fn (c : Dc) (L : List DM) (t : Nat) : dfn (frL c L t) = dfn L := by
  funext q
  unfold dfn
  rw [frL_get]
  cases dget L q with
  | none => rfl
  | some m => simp only [Option.map_some]; split <;> rfl
theorem frL_due {c : Dc} {L : List DM} (t : Nat) (q : Pf) : ddue (frL c L t) q = (ddue L q && heldP c (dfn L) q t) := by
  unfold ddue
  rw [frL_get]
  cases hg : dget L q with
  | none => rfl
  | some m =>
    have hp := (dget_mem hg).2
    simp only [Option.map_some, Option.getD_some]
    cases hf : frM c L t m with
    | true =>
      rw [if_pos rfl]
      unfold frM at hf
      rw [hp] at hf
      have := ((Bool.and_eq_true _ _).mp hf).2
      cases hh : heldP c (dfn L) q t with
      | true => rw [hh] at this; cases this
      | false => rw [Bool.and_false]
    | false =>
      rw [if_neg (by decide)]
      unfold frM at hf
      rw [hp] at hf
      cases hd : m.due with
      | false => rfl
      | true =>
        rw [hd] at hf
        cases hh : heldP c (dfn L) q t with
        | true => rfl
        | false => rw [hh] at hf; cases hf
theorem frL_nd {c : Dc} {L : List DM} (h : DNd L) (t : Nat) : DNd (frL c L t) := by
  unfold DNd frL at *
  rw [List.map_map]
  have e : ((fun x => x.p) ∘ fun m => if frM c L t m = true then { m with due := false } else m) = (fun m : DM => m.p) := by
    funext m
    simp only [Function.comp]
    split <;> rfl
  rw [e]
  exact h
theorem Rd.freed {c : Dc} (hc : DcOk c) {es : Ents Pf Pn} {ce : Nat} {us : Ents Pf Unit} {cu : Nat} {L : List DM} (h : Rd c es us L) (ok : Mok es ce) (uok : Mok us cu) {t : Nat} (ht : c.clock ≤ t) : Rd (clkD c t) (liveP c es t) (us.filter (fun x => !freeX (clkD c t) (mget (liveP c es t)) t x)) (frL c L t) ∧ ((us.filter (freeX (clkD c t) (mget (liveP c es t)) t)).map (·.1)).Perm (frO c L t) := by
  have hr := h.clk hc ok ht
  have hh : ∀ p, heldP (clkD c t) (mget (liveP c es t)) p t = heldP c (dfn L) p t := fun p => hr.hld p t (Nat.le_refl _)
  have e1 := mget_filter uok (fun q (_ : Unit) => !!heldP (clkD c t) (mget (liveP c es t)) q t)
  have e2 : us.filter (fun x => !freeX (clkD c t) (mget (liveP c es t)) t x) = us.filter (fun x => (fun q (_ : Unit) => !!heldP (clkD c t) (mget (liveP c es t)) q t) x.1 x.2.1) := rfl
  refine ⟨⟨frL_nd h.nd t, fun m hm => ?_, fun p u hu => by rw [frL_fn]; exact hr.pen p u hu, fun p u hu => by rw [frL_fn]; exact hr.hld p u hu, fun p => ?_, fun p hp => ?_⟩, ?_⟩
  · obtain ⟨m0, hm0, rfl⟩ := List.mem_map.1 hm
    have := hr.bd m0 hm0
    split <;> exact this
  · rw [e2, e1 p, frL_due, ← h.due p, ← hh p]
    cases hg : mget us p with
    | none => rfl
    | some x =>
      cases hx : heldP (clkD c t) (mget (liveP c es t)) p t with
      | true => simp [Option.filter, hx]
      | false => simp [Option.filter, hx]
  · rw [frL_fn] at hp
    rw [frL_due, hr.inv p hp]
    exact hp
  · have n1 : ((us.filter (freeX (clkD c t) (mget (liveP c es t)) t)).map (·.1)).Nodup := uok.nk.sublist (List.filter_sublist.map _)
    have n2 : (frO c L t).Nodup := List.Nodup.sublist (List.filter_sublist.map _) h.nd
    rw [List.perm_ext_iff_of_nodup n1 n2]
    intro q
    have hq := h.due q
    constructor
    · intro hm
      obtain ⟨x, hx, rfl⟩ := List.mem_map.1 hm
      obtain ⟨hx1, hx2⟩ := List.mem_filter.1 hx
      rw [mget_of_mem uok hx1] at hq
      unfold ddue at hq
      cases hg : dget L x.1 with
      | none => rw [hg] at hq; cases hq
      | some m =>
        rw [hg] at hq
        obtain ⟨hm1, hm2⟩ := dget_mem hg
        refine List.mem_map.2 ⟨m, List.mem_filter.2 ⟨hm1, ?_⟩, hm2⟩
        unfold frM
        unfold freeX at hx2
        rw [hm2, ← hh x.1, hx2, Bool.and_true]
        exact hq.symm
    · intro hm
      obtain ⟨m, hm1, rfl⟩ := List.mem_map.1 hm
      obtain ⟨hm2, hm3⟩ := List.mem_filter.1 hm1
      unfold frM at hm3
      obtain ⟨h5, h6⟩ := (Bool.and_eq_true _ _).mp hm3
      have h7 : ddue L m.p = true := by unfold ddue; rw [dget_of h.nd hm2]; exact h5
      rw [h7] at hq
      obtain ⟨x, hx, hx2⟩ := List.mem_map.1 ((key_some uok m.p).2 hq)
      refine List.mem_map.2 ⟨x, List.mem_filter.2 ⟨hx, ?_⟩, hx2⟩
      unfold freeX
      rw [hx2, hh]
      exact h6
end Go.Proofs.Ytjfiahendnlcjaa.Da
