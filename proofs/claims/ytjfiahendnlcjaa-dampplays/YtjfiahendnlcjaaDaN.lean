/- DampEnds: what is held, and when it ends: plain; and all that stands between two steps. -/
import Derived.Test.YtjfiahendnlcjaaDaI
import Derived.Test.YtjfiahendnlcjaaDaJ
import Derived.Test.YtjfiahendnlcjaaDaK
namespace Go.Proofs.Ytjfiahendnlcjaa.Da
open Go.ChangeShapes Go.WideShapes Go.ChangeAt Go.RowKit Go.Joins Go.Deep Go.Proofs.Ytjfiahendnlcjaa.Ge Go.Proofs.Ytjfiahendnlcjaa.PM Go.Proofs.Ytjfiahendnlcjaa.Ask
set_option linter.unusedVariables false
set_option linter.unusedSimpArgs false

theorem wrap_rng (z : Int) : -9223372036854775808 ≤ IntKind.i64.wrap z ∧ IntKind.i64.wrap z < 9223372036854775808 := by rw [IntKind.wrap_i64]; omega
theorem ds_px {W : World} {b k : Nat} {x : Ds} (h : ∀ j, j < 5 → W.cell? ⟨b, k + j, none⟩ = (dsL x)[j]?) : ∀ j, j < PxK.k → W.cell? ⟨b, k + 1 + j, none⟩ = (pxL x.p)[j]? := fun j hj => by
  have hj2 : j < 2 := hj
  rw [Nat.add_assoc, h (1 + j) (by omega)]
  match j, hj2 with
  | 0, _ => rfl
  | 1, _ => rfl
theorem sb_five {W : World} {b : Nat} {x : Ds} (h : SB DsK b (dsL x) W) : ∀ j, j < 5 → W.cell? ⟨b, 0 + j, none⟩ = (dsL x)[j]? := fun j _ => by rw [Nat.zero_add]; exact h.cell j
theorem atP_zero (half v t : Nat) : atP half v (t - t) = v := by
  unfold atP
  rw [Nat.sub_self, Nat.zero_div, Nat.zero_mod]
  simp
theorem hld_reuse {c : Dc} (hc : DcOk c) {f : Pf → Option Pn} {p : Pf} {what : Int} {t : Nat} (h : hldP c f p what t = true) : c.reuse ≤ valP c f p what t := by
  unfold hldP at h
  rcases (Bool.or_eq_true _ _).mp h with h | h
  · unfold heldP at h
    have h2 := of_decide_eq_true ((Bool.and_eq_true _ _).mp h).2
    have := hc.reuse; have := hc.most
    unfold valP
    omega
  · have h2 := of_decide_eq_true h
    have := hc.reuse
    omega
/-- behind a flap it is held just where the flap says so -/
theorem flap_held {c : Dc} (hc : DcOk c) {es : Ents Pf Pn} {ce : Nat} (ok : Mok es ce) (p : Pf) (what : Int) (t : Nat) : heldP (clkD c t) (mget (flE c es ce p t (valP c (mget es) p what t) (hldP c (mget es) p what t))) p t = hldP c (mget es) p what t := by
  by_cases hv : 0 < valP c (mget es) p what t
  · unfold flE
    rw [if_pos hv]
    unfold heldP penP pn
    rw [mput_get, if_pos rfl]
    show (hldP c (mget es) p what t && decide (c.reuse ≤ atP c.half (valP c (mget es) p what t) (t - t))) = _
    rw [atP_zero]
    cases hh : hldP c (mget es) p what t with
    | false => rfl
    | true => rw [decide_eq_true (hld_reuse hc hh)]; rfl
  · have hv0 : valP c (mget es) p what t = 0 := by omega
    have hf : hldP c (mget es) p what t = false := by
      cases hh : hldP c (mget es) p what t with
      | false => rfl
      | true => have := hld_reuse hc hh; have := hc.reuse; omega
    rw [hf]
    unfold flE
    rw [if_neg hv]
    have hp0 : penP c (mget es) p t = 0 := by
      unfold valP at hv0
      have := hc.reuse; have := hc.most
      omega
    have hg : mget (liveP c es t) p = none := by
      have e := mget_filter ok (fun _ v => !decide (atP c.half v.v (t - v.s) = 0)) p
      have e2 : liveP c es t = es.filter (fun x => (fun (_ : Pf) (v : Pn) => !decide (atP c.half v.v (t - v.s) = 0)) x.1 x.2.1) := rfl
      rw [e2, e]
      cases hm : mget es p with
      | none => rfl
      | some x =>
        unfold penP pn at hp0
        rw [hm] at hp0
        have hp1 : atP c.half x.v (t - x.s) = 0 := hp0
        simp [Option.filter, hp1]
    unfold heldP pn
    rw [hg]
    rfl
/-- late enough nothing is held -/
theorem late_gen {c : Dc} (hc : DcOk c) (f : Pf → Option Pn) (hf : ∀ p, (pn f p).v ≤ c.most ∧ (pn f p).s ≤ c.clock) (k t : Nat) (hk : c.most / 2 ^ k < c.reuse) (ht : c.clock + k * c.half ≤ t) (p : Pf) : heldP c f p t = false := by
  have h1 : penP c f p t ≤ c.most / 2 ^ k := by
    unfold penP atP
    refine Nat.le_trans (Nat.sub_le _ _) ?_
    have hs := hf p
    have hq : k ≤ (t - (pn f p).s) / c.half := (Nat.le_div_iff_mul_le hc.half.1).2 (by omega)
    exact Nat.le_trans (Nat.div_le_div_right hs.1) (Nat.div_le_div_left (Nat.pow_le_pow_right (by decide) hq) (Nat.two_pow_pos k))
  unfold heldP
  rw [decide_eq_false (by omega)]
  exact Bool.and_false _
theorem pn_live {c : Dc} {es : Ents Pf Pn} {ce : Nat} (ok : Mok es ce) (t : Nat) (hf : ∀ p, (pn (mget es) p).v ≤ c.most ∧ (pn (mget es) p).s ≤ c.clock) (p : Pf) : (pn (mget (liveP c es t)) p).v ≤ c.most ∧ (pn (mget (liveP c es t)) p).s ≤ c.clock := by
  have e := mget_filter ok (fun _ v => !decide (atP c.half v.v (t - v.s) = 0)) p
  have e2 : liveP c es t = es.filter (fun x => (fun (_ : Pf) (v : Pn) => !decide (atP c.half v.v (t - v.s) = 0)) x.1 x.2.1) := rfl
  have h := hf p
  unfold pn at h ⊢
  rw [e2, e]
  cases hm : mget es p with
  | none => exact ⟨Nat.zero_le _, Nat.zero_le _⟩
  | some x =>
    rw [hm] at h
    by_cases hd : atP c.half x.v (t - x.s) = 0
    · simp [Option.filter, hd]
    · simp [Option.filter, hd]; exact h
theorem key_some {us : Ents Pf Unit} {cu : Nat} (ok : Mok us cu) (p : Pf) : p ∈ us.map (·.1) ↔ (mget us p).isSome = true := by
  constructor
  · intro h
    obtain ⟨x, hx, rfl⟩ := List.mem_map.1 h
    rw [mget_of_mem ok hx]
    rfl
  · intro h
    obtain ⟨v, hv⟩ := Option.isSome_iff_exists.1 h
    obtain ⟨x, hx, e, -⟩ := mem_of_mget hv
    exact List.mem_map.2 ⟨x, hx, e⟩
/-- those that were held, and those still to be told -/
structure Sm (hs : List (Int × Int)) (us : Ents Pf Unit) : Prop where
  nd : hs.Nodup
  mem : ∀ p, p ∈ hs ↔ (mget us p).isSome = true
theorem Sm.perm {hs : List (Int × Int)} {us : Ents Pf Unit} {cu : Nat} (h : Sm hs us) (ok : Mok us cu) : hs.Perm (us.map (·.1)) := by
  rw [List.perm_ext_iff_of_nodup h.nd ok.nk]
  intro p
  rw [h.mem, key_some ok]
theorem Sm.skip {hs : List (Int × Int)} {us : Ents Pf Unit} (h : Sm hs us) (cu : Nat) (p : Pf) (hb : Bool) (hn : ¬ (hb = true ∧ p ∉ hs)) : Sm hs (flU us cu p hb) := by
  refine ⟨h.nd, fun q => ?_⟩
  unfold flU
  by_cases hh : hb = true
  · rw [if_pos hh, mput_get]
    have hp : p ∈ hs := Decidable.not_not.1 (fun c => hn ⟨hh, c⟩)
    by_cases hq : q = p
    · rw [if_pos hq, hq]; exact ⟨fun _ => rfl, fun _ => hp⟩
    · rw [if_neg hq]; exact h.mem q
  · rw [if_neg hh]; exact h.mem q
theorem Sm.add {hs : List (Int × Int)} {us : Ents Pf Unit} (h : Sm hs us) (cu : Nat) (p : Pf) (hp : p ∉ hs) : Sm (hs ++ [p]) (flU us cu p true) := by
  refine ⟨?_, fun q => ?_⟩
  · rw [List.nodup_append]
    exact ⟨h.nd, by simp, fun a ha b hb e => hp (by rw [List.mem_singleton.1 hb] at e; exact e ▸ ha)⟩
  · unfold flU
    rw [if_pos rfl, mput_get]
    by_cases hq : q = p
    · rw [if_pos hq, hq]; simp
    · rw [if_neg hq, List.mem_append, ← h.mem q]
      simp [hq]
/-- Freed, late enough: all that were held are told, and none is left -/
theorem fr_all {W : World} {d : Dw} {c : Dc} {es : Ents Pf Pn} {ce : Nat} {us : Ents Pf Unit} {cu : Nat} (h : Dp W d c es ce us cu) (k t : Nat) (hk : c.most / 2 ^ k < c.reuse) (ht : c.clock + k * c.half ≤ t) : us.filter (freeX (clkD c t) (mget (liveP c es t)) t) = us ∧ us.filter (fun x => !freeX (clkD c t) (mget (liveP c es t)) t x) = [] := by
  have hx : ∀ x ∈ us, freeX (clkD c t) (mget (liveP c es t)) t x = true := fun x _ => by
    have e : heldP (clkD c t) (mget (liveP c es t)) x.1 t = heldP c (mget (liveP c es t)) x.1 t := rfl
    unfold freeX
    rw [e, late_gen h.cok _ (pn_live h.eok t h.pn_ok) k t hk ht]
    rfl
  exact ⟨List.filter_eq_self.2 hx, List.filter_eq_nil_iff.2 (fun x hx2 => by rw [hx x hx2]; decide)⟩
/-- a call's own list of those held, beside the damper and the config -/
structure EI (w : World) (d : Dw) (b2 : Nat) (cg : List Value) (c0 : Dc) (i : Nat) (c : Dc) (hv : Value) (hs : List (Int × Int)) (W : World) : Prop where
  st : ∃ es ce us cu, Dp W d c es ce us cu ∧ Sm hs us ∧ es.length ≤ i ∧ us.length ≤ i
  own : OwnL E2 w.heap.size W hv hs
  box : SB CgK b2 cg W
  hl : hs.length ≤ i
  cc : c = clkD c0 c.clock
  ap : ∀ g, hv.ownBlock = some g → ¬ fpD d g
  nb : ∀ g, hv.ownBlock = some g → g ≠ b2
  lx : ∀ g, fpD d g → w.heap.size ≤ g ∧ g < W.heap.size ∧ g ≠ b2
  l2 : w.heap.size ≤ b2
  bel : Below w.heap.size w W
theorem EI.step {w : World} {d : Dw} {b2 : Nat} {cg : List Value} {c0 : Dc} {i : Nat} {c : Dc} {hv : Value} {hs : List (Int × Int)} {W W' : World} (h : EI w d b2 cg c0 i c hv hs W) (hb : Below W.heap.size W W') : EI w d b2 cg c0 i c hv hs W' := by
  obtain ⟨es, ce, us, cu, h1, h2⟩ := h.st
  exact ⟨⟨es, ce, us, cu, h1.bel hb, h2⟩, h.own.bel hb, h.box.blk (hb.block _ h.box.lt), h.hl, h.cc, h.ap, h.nb, fun g hg => ⟨(h.lx g hg).1, Nat.lt_of_lt_of_le (h.lx g hg).2.1 hb.size, (h.lx g hg).2.2⟩, h.l2, h.bel.trans (hb.mono h.bel.size)⟩
theorem EI.ko {w : World} {d : Dw} {b2 : Nat} {cg : List Value} {c0 : Dc} {i : Nat} {c : Dc} {hv : Value} {hs : List (Int × Int)} {W W' : World} {b : Nat} (h : EI w d b2 cg c0 i c hv hs W) (hk : Ko W b W') (h1 : ¬ fpD d b) (h2 : b ≠ b2) (h3 : w.heap.size ≤ b) (h4 : ∀ g, hv.ownBlock = some g → g ≠ b) : EI w d b2 cg c0 i c hv hs W' := by
  obtain ⟨es, ce, us, cu, g1, g2⟩ := h.st
  exact ⟨⟨es, ce, us, cu, g1.blk (fun g hg _ => hk.block g (fun e => h1 (e ▸ hg))), g2⟩, h.own.blk (fun g e => hk.block g (h4 g e)), h.box.blk (hk.block _ (Ne.symm h2)), h.hl, h.cc, h.ap, h.nb, fun g hg => ⟨(h.lx g hg).1, by rw [hk.size]; exact (h.lx g hg).2.1, (h.lx g hg).2.2⟩, h.l2, h.bel.trans (hk.below h3)⟩
theorem EI.next {w : World} {d : Dw} {b2 : Nat} {cg : List Value} {c0 : Dc} {i : Nat} {c : Dc} {hv : Value} {hs : List (Int × Int)} {W : World} (h : EI w d b2 cg c0 i c hv hs W) : EI w d b2 cg c0 (i + 1) c hv hs W := by
  obtain ⟨es, ce, us, cu, g1, g2, g3, g4⟩ := h.st
  exact ⟨⟨es, ce, us, cu, g1, g2, by omega, by omega⟩, h.own, h.box, by have := h.hl; omega, h.cc, h.ap, h.nb, h.lx, h.l2, h.bel⟩
/-- behind a flap that was taken: only the held ones are still to be noted -/
def EM (w : World) (d : Dw) (b2 : Nat) (cg : List Value) (c0 : Dc) (i : Nat) (c : Dc) (hv : Value) (hs : List (Int × Int)) (p : Pf) (hb : Bool) (W : World) : Prop := (¬ (hb = true ∧ p ∉ hs) → EI w d b2 cg c0 (i + 1) c hv hs W) ∧ (hb = true → p ∉ hs → ∀ v' W', OwnL E2 w.heap.size W' v' (hs ++ [p]) → Below w.heap.size W W' → (∀ q, q < W.heap.size → ¬ hv.ownBlock = some q → W'.heap[q]? = W.heap[q]?) → (v'.ownBlock = hv.ownBlock ∨ ∃ q, v'.ownBlock = some q ∧ W.heap.size ≤ q) → EI w d b2 cg c0 (i + 1) c v' (hs ++ [p]) W')
/-- Flap -/
def FlE (w : World) (d : Dw) (b2 : Nat) (cg : List Value) (c0 : Dc) (i : Nat) (c : Dc) (hv : Value) (hs : List (Int × Int)) (p : Pf) (now : Int) (W : World) (e : Ending) (w1 : World) : Prop := ∃ r : Int, e = .returned (.int .i64 r) ∧ Kd W w1 d ∧ OwnL E2 w.heap.size w1 hv hs ∧ w.heap.size ≤ w1.heap.size ∧
  (r ≠ 0 → EI w d b2 cg c0 (i + 1) c hv hs w1) ∧ (r = 0 → ∃ hb : Bool, ((c.clock : Int) ≤ now ∧ now ≤ 1099511627776) ∧
    (∀ W', Below w1.heap.size w1 W' → Calls Try.prog 12 #[.pointer (some ⟨d.b, 0, none⟩), pfV p, .int .i64 now] W' fun e2 w2 => e2 = .returned (.bool hb) ∧ Below W'.heap.size W' w2) ∧
    ∀ W', Below w1.heap.size w1 W' → EM w d b2 cg c0 i (clkD c now.toNat) hv hs p hb W')
theorem EI.flap {w : World} {d : Dw} {b2 : Nat} {cg : List Value} {c0 : Dc} {i : Nat} {c : Dc} {hv : Value} {hs : List (Int × Int)} {W : World} (h : EI w d b2 cg c0 i c hv hs W) (hN : i ≤ 100000) (p : Pf) (hp : 0 ≤ p.1 ∧ p.1 < 4294967296) (what now : Int) : Calls Try.prog 8 #[.pointer (some ⟨d.b, 0, none⟩), pfV p, .int .i64 what, .int .i64 now] W (FlE w d b2 cg c0 i c hv hs p now W) := by
  obtain ⟨es, ce, us, cu, g1, g2, g3, g4⟩ := h.st
  refine (flap_any d c es ce us cu p what now W g1 hp (by omega)).mono ?_
  rintro e w1 ⟨he, hk, hno, hok⟩
  have ho1 : OwnL E2 w.heap.size w1 hv hs := h.own.blk (fun g e => hk.blk g (h.own.row.lt g e).2 (h.ap g e))
  have hx1 : SB CgK b2 cg w1 := h.box.blk (hk.blk b2 h.box.lt (fun hf => (h.lx b2 hf).2.2 rfl))
  have hb1 : Below w.heap.size w w1 := hk.below h.bel (fun g hg => (h.lx g hg).1)
  have hl1 : ∀ g, fpD d g → w.heap.size ≤ g ∧ g < w1.heap.size ∧ g ≠ b2 := fun g hg => ⟨(h.lx g hg).1, Nat.lt_of_lt_of_le (h.lx g hg).2.1 hk.str.size, (h.lx g hg).2.2⟩
  refine ⟨chkP c es p what now, he, hk, ho1, hb1.size, fun hr => ⟨⟨es, ce, us, cu, hno hr, g2, by omega, by omega⟩, ho1, hx1, by have := h.hl; omega, h.cc, h.ap, h.nb, hl1, h.l2, hb1⟩, fun hr => ?_⟩
  have hcl := chk_ok hr
  have hd := hok hr
  have hfh := flap_held g1.cok g1.eok p what now.toNat
  have a1 := flE_len c es ce p now.toNat (valP c (mget es) p what now.toNat) (hldP c (mget es) p what now.toNat)
  have a3 := flU_len us cu p (hldP c (mget es) p what now.toNat)
  have hcc : clkD c now.toNat = clkD c0 (clkD c now.toNat).clock := by rw [h.cc]; rfl
  refine ⟨hldP c (mget es) p what now.toNat, hcl, fun W' hb => ?_, fun W' hb => ?_⟩
  · rw [← hfh]
    exact heldq_any d _ _ _ _ _ p now now.toNat W' (hd.bel hb) (by omega) (by show max now ((now.toNat : Nat) : Int) = _; omega)
  · have hd' := hd.bel hb
    obtain ⟨hb0, hhb⟩ : ∃ y, hldP c (mget es) p what now.toNat = y := ⟨_, rfl⟩
    rw [hhb] at hd' a1 a3 ⊢
    refine ⟨fun hn => ⟨⟨_, _, _, _, hd', g2.skip cu p hb0 hn, by omega, by omega⟩, ho1.bel hb, hx1.blk (hb.block _ hx1.lt), by have := h.hl; omega, hcc, h.ap, h.nb, fun g hg => ⟨(hl1 g hg).1, Nat.lt_of_lt_of_le (hl1 g hg).2.1 hb.size, (hl1 g hg).2.2⟩, h.l2, hb1.trans (hb.mono hb1.size)⟩, fun ht hnp v' W2 ho2 hbl2 hkeep hown => ?_⟩
    subst ht
    have hd2 : Dp W2 d (clkD c now.toNat) _ _ (flU us cu p true) _ := hd'.blk (fun g hg hl => hkeep g hl (fun e => h.ap g e hg))
    have hx2 : SB CgK b2 cg W2 := (hx1.blk (hb.block _ hx1.lt)).blk (hkeep b2 (Nat.lt_of_lt_of_le hx1.lt hb.size) (fun e => h.nb b2 e rfl))
    have hap : ∀ g, v'.ownBlock = some g → ¬ fpD d g ∧ g ≠ b2 := fun g e => by
      rcases hown with h5 | ⟨q, h5, h6⟩
      · rw [h5] at e; exact ⟨h.ap g e, h.nb g e⟩
      · rw [h5] at e; cases e
        exact ⟨fun hf => by have := (hl1 _ hf).2.1; have := hb.size; omega, fun e2 => by have := hx1.lt; have := hb.size; omega⟩
    exact ⟨⟨_, _, _, _, hd2, g2.add cu p hnp, by omega, by omega⟩, ho2, hx2, by rw [List.length_append]; have := h.hl; simp; omega, hcc, fun g e => (hap g e).1, fun g e => (hap g e).2, fun g hg => ⟨(hl1 g hg).1, Nat.lt_of_lt_of_le (hl1 g hg).2.1 (Nat.le_trans hb.size hbl2.size), (hl1 g hg).2.2⟩, h.l2, (hb1.trans (hb.mono hb1.size)).trans hbl2⟩
end Go.Proofs.Ytjfiahendnlcjaa.Da
