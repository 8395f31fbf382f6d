/- Offers whose lists are their own: offersCopy. -/
import Derived.Test.YtkahjibdmhaglaaChT
import Derived.Test.YtkahjibdmhaglaaChU
namespace Go.Proofs.Ytkahjibdmhaglaa.Ch
open Go.ChangeShapes Go.WideShapes Go.ChangeAt Go.RowKit Go.Joins Go.Deep Go.Proofs.Ytkahjibdmhaglaa.Ge
set_option linter.unusedVariables false
set_option linter.unusedSimpArgs false

/-- a block in which one of an offer's lists lies -/
def InL (g : Nat) (x : Of) (s : Oa) : Prop := (Value.slice s.p x.path.length s.pc).ownBlock = some g ∨ (Value.slice s.m x.marks.length s.mc).ownBlock = some g ∨ (Value.slice s.c x.clus.length s.cc).ownBlock = some g
theorem OcOk.blk {N : Nat} {W W' : World} {x : Of} {s : Oa} (h : OcOk N W x s) (hb : ∀ g, InL g x s → W'.heap[g]? = W.heap[g]?) : OcOk N W' x s := ⟨h.p.blk (fun g e => hb g (.inl e)), h.m.blk (fun g e => hb g (.inr (.inl e))), h.c.blk (fun g e => hb g (.inr (.inr e)))⟩
theorem OcOk.lt {N g : Nat} {W : World} {x : Of} {s : Oa} (h : OcOk N W x s) (hg : InL g x s) : N ≤ g ∧ g < W.heap.size := by
  rcases hg with e | e | e
  · exact h.p.row.lt g e
  · exact h.m.row.lt g e
  · exact h.c.row.lt g e
theorem OcOk.bel {N : Nat} {W W' : World} {x : Of} {s : Oa} (h : OcOk N W x s) (hb : Below W.heap.size W W') : OcOk N W' x s := h.blk (fun g e => hb.block g (h.lt e).2)
theorem OcOk.mono {N N' : Nat} {W : World} {x : Of} {s : Oa} (h : OcOk N W x s) (hn : N' ≤ N) : OcOk N' W x s := ⟨h.p.mono hn, h.m.mono hn, h.c.mono hn⟩
structure Bd (x : Of) : Prop where
  bp : x.path.length ≤ 1048576
  bm : x.marks.length ≤ 1048576
  bc : x.clus.length ≤ 1048576
  org : -9223372036854775808 ≤ x.org ∧ x.org < 9223372036854775808
  pref : -9223372036854775808 ≤ x.pref ∧ x.pref < 9223372036854775808
theorem OcOk.ok {N : Nat} {W : World} {x : Of} {s : Oa} (h : OcOk N W x s) (hb : Bd x) : OfOk W 1048576 x s := by
  refine ⟨h.p.lst.1, h.m.lst.1, h.c.lst.1, fun e => ?_, fun e => ?_, fun e => ?_, hb.bp, hb.bm, hb.bc, hb.org, hb.pref⟩
  · obtain ⟨a, c, e1, -, e2, -⟩ := h.p.form
    cases e1; exact e2 e
  · obtain ⟨a, c, e1, -, e2, -⟩ := h.m.form
    cases e1; exact e2 e
  · obtain ⟨a, c, e1, -, e2, -⟩ := h.c.form
    cases e1; exact e2 e
/-- copies of offers, apart from each other's memory -/
structure Cps (N : Nat) (W : World) (v : Value) (ys : List (Of × Oa)) : Prop where
  own : Gm.OwnL EO N W v ys
  ok : ∀ q ∈ ys, OcOk N W q.1 q.2
  ap : ∀ q ∈ ys, ∀ g, v.ownBlock = some g → ¬ InL g q.1 q.2
  bd : ∀ q ∈ ys, Bd q.1
theorem Cps.bel {N : Nat} {W W' : World} {v : Value} {ys : List (Of × Oa)} (h : Cps N W v ys) (hb : Below W.heap.size W W') : Cps N W' v ys := ⟨h.own.bel hb, fun q hq => (h.ok q hq).bel hb, h.ap, h.bd⟩
theorem Cps.app {N : Nat} {W W' : World} {v v' : Value} {ys : List (Of × Oa)} {q : Of × Oa} (h : Cps N W v ys) (hq : OcOk N W q.1 q.2) (hqa : ∀ g, v.ownBlock = some g → ¬ InL g q.1 q.2) (hqb : Bd q.1) (ho : Gm.OwnL EO N W' v' (ys ++ [q])) (hg : W.grownBy W' v.ownBlock) (hv : v'.ownBlock = v.ownBlock ∨ v'.ownBlock = some W.heap.size) : Cps N W' v' (ys ++ [q]) := by
  have hall : ∀ p ∈ ys ++ [q], OcOk N W p.1 p.2 ∧ (∀ g, v.ownBlock = some g → ¬ InL g p.1 p.2) ∧ Bd p.1 := fun p hp => by
    rcases List.mem_append.1 hp with hp | hp
    · exact ⟨h.ok p hp, h.ap p hp, h.bd p hp⟩
    · rw [List.mem_singleton.1 hp]; exact ⟨hq, hqa, hqb⟩
  refine ⟨ho, fun p hp => (hall p hp).1.blk (fun g e => hg.block g ((hall p hp).1.lt e).2 (fun e2 => (hall p hp).2.1 g e2.symm e)), fun p hp g e hin => ?_, fun p hp => (hall p hp).2.2⟩
  rcases hv with h1 | h1
  · exact (hall p hp).2.1 g (h1 ▸ e) hin
  · rw [h1] at e
    have h2 := ((hall p hp).1.lt hin).2
    have h3 := Option.some.inj e
    omega
def OcsPost (w : World) (xs : List (Of × Oa)) (e : Ending) (w' : World) : Prop := ∃ v ys, e = .returned v ∧ ys.map Prod.fst = xs.map Prod.fst ∧ Cps w.heap.size w' v ys ∧ Below w.heap.size w w' ∧ (xs = [] → v = .slice none 0 0)
structure CyI (w : World) (xs : List (Of × Oa)) (n : Nat) (iv v : Value) (W : World) : Prop where
  at_ : ∃ (i : Nat) (ys : List (Of × Oa)), i ≤ n ∧ iv = .int .i64 (i : Int) ∧ ys.map Prod.fst = (xs.take i).map Prod.fst ∧ Cps w.heap.size W v ys ∧ (i = 0 → v = .slice none 0 0)
  bel : Below w.heap.size w W
set_option maxRecDepth 100000 in
set_option maxHeartbeats 16000000 in
theorem ocs_any (la : Option Addr) (n lc : Nat) (xs : List (Of × Oa)) (hxn : xs.length = n) (hn : n ≤ 1000) (w : World) (hx : Gm.Lst EO w la xs) (hok : ∀ q ∈ xs, OfOk w 1048576 q.1 q.2) : Calls Try.prog 6 #[.slice la n lc] w (OcsPost w xs) := by
  have HX : Hid (Gm.Lst EO w la xs) := hx
  have HOK : Hid (∀ q ∈ xs, OfOk w 1048576 q.1 q.2) := hok
  have HN : Hid (xs.length = n) := hxn
  clear hx hok hxn
  go_enter Try.func6, Try.ntmps6
  go_wp2_with fail
  go_loopw [8, 3, 5] (fun iv v _ wr => CyI w xs n iv v wr) (fun i _ _ _ => n - (intOf i).toNat)
  case atStart => exact ⟨⟨0, [], by omega, rfl, rfl, ⟨Gm.OwnL.nil _ _ _, fun q hq => (by cases hq), fun q hq => (by cases hq), fun q hq => (by cases hq)⟩, fun _ => rfl⟩, Below.refl _ _⟩
  case round =>
    obtain ⟨⟨i, ys, hi, rfl, hm, hc, hz⟩, hb⟩ := hrel
    have HZ : Hid (i = 0 → u3 = .slice none 0 0) := hz
    clear hz
    obtain ⟨wz, hwz⟩ : ∃ y, wr = y := ⟨_, rfl⟩
    rw [hwz] at hc hb ⊢
    have HC : Hid (Cps w.heap.size wz u3 ys) := hc
    have HB : Hid (Below w.heap.size w wz) := hb
    have HM : Hid (ys.map Prod.fst = (xs.take i).map Prod.fst) := hm
    clear hc hb hm hwz
    by_cases hlt : i < n
    case neg =>
      have hii : ¬ (i : Int) < (n : Int) := by omega
      have HE : Hid (OcsPost w xs (.returned u3) wz) := by
        refine ⟨u3, ys, rfl, ?_, HC.out, HB.out, fun e => HZ.out (by have h1 := HN.out; rw [e] at h1; have h2 : n = 0 := h1.symm; omega)⟩
        rw [HM.out, List.take_of_length_le (by have := HN.out; omega)]
      go_wp2_with fail
      go_ret
      exact HE.out
    have hil : i < xs.length := by rw [HN.out]; exact hlt
    have hii : (i : Int) < (n : Int) := by omega
    have ii0 : (0 : Int) ≤ (i : Int) := by omega
    obtain ⟨lb, lo, rfl, hbl, hcl⟩ := HX.out.cells i hil
    obtain ⟨x, hx⟩ : ∃ y, xs[i].1 = y := ⟨_, rfl⟩
    obtain ⟨s, hs⟩ : ∃ y, xs[i].2 = y := ⟨_, rfl⟩
    have HAT : Hid (∀ j, j < OfK.k → wz.cell? ⟨lb, lo + i * 13 + j, none⟩ = (ofL x s)[j]?) := fun j hj => by
      rw [← hx, ← hs]
      exact (World.cell?_of_block (w := w) (HB.out.block lb hbl)).trans (hcl j hj)
    have HXO : Hid (OfOk w 1048576 x s ∧ xs[i].1 = x) := by
      have h5 := HOK.out xs[i] (List.getElem_mem hil)
      rw [hx, hs] at h5
      exact ⟨h5, hx⟩
    clear hx hs hcl hbl
    go_wp2_with (first | (refine list_sat OfK rfl _ rfl (b := lb) (k := lo + i * 13) (cs := ofL x s) rfl HAT.out rfl ?_) | (refine list_sstore OfK rfl _ _ rfl (b := wz.heap.size) (cs := zeroOf) (cs' := ofL x s) rfl rfl (World.alloc_heap_new wz _) rfl rfl rfl ?_))
    intro W1 hx1 hk1
    obtain ⟨bo, hbo⟩ : ∃ y, wz.heap.size = y := ⟨_, rfl⟩
    have HB1 : Hid (Below wz.heap.size wz W1) := ((Below.refl _ wz).alloc (Nat.le_refl _) _).trans (hk1.out.below (Nat.le_refl _))
    have HS1 : Hid (SB OfK bo (ofL x s) W1) := by rw [← hbo]; exact hx1.out
    rw [hbo]
    clear hx1 hk1 hbo
    have HB1w : Hid (Below w.heap.size w W1) := HB.out.trans (HB1.out.mono HB.out.size)
    have HOKW : Hid (OfOk W1 1048576 x s) := by
      obtain ⟨q1, q2, q3, q4, q5, q6, q7, q8, q9, q10, q11⟩ := HXO.out.1
      exact ⟨q1.bel HB1w.out, q2.bel HB1w.out, q3.bel HB1w.out, q4, q5, q6, q7, q8, q9, q10, q11⟩
    have HC1 : Hid (Cps w.heap.size W1 u3 ys) := HC.out.bel HB1.out
    go_wp2_with (refine list_sload OfK rfl _ rfl (b := bo) (cs := ofL x s) rfl HS1.out rfl ?_)
    refine (oc_any x s W1 HOKW.out).mono ?_
    rintro e W2 ⟨s2, rfl, hb2, ho2⟩
    have HB2 : Hid (Below W1.heap.size W1 W2) := hb2
    have HO2 : Hid (OcOk W1.heap.size W2 x s2) := ho2
    have HC2 : Hid (Cps w.heap.size W2 u3 ys) := HC1.out.bel hb2
    have hysl : ys.length ≤ 1000 := by
      have h5 := congrArg List.length HM.out
      rw [List.length_map, List.length_map, List.length_take] at h5
      omega
    have HA3 : Hid (Below W2.heap.size W2 (W2.alloc (Obj.cells (EO.enc (x, s2)).toArray 35))) := (Below.refl _ _).alloc (Nat.le_refl _) _
    have HS2 : Hid (w.heap.size ≤ W2.heap.size ∧ w.heap.size ≤ W1.heap.size) := ⟨Nat.le_trans HB1w.out.size hb2.size, HB1w.out.size⟩
    clear hb2 ho2
    go_wp2_with (first | (refine list_obuild rfl _ rfl x s2 rfl ?_) | (at_builtin; refine Gm.list_app1 EO rfl _ _ 22 rfl rfl w.heap.size u3 ys (x, s2) (by omega) (w := W2) (W2.alloc (Obj.cells (EO.enc (x, s2)).toArray 35)) rfl (HC2.out.own.bel HA3.out) rfl (Nat.le_trans HS2.out.1 HA3.out.size) rfl ?_))
    intro v4 W4 ho4 hg4 hv4
    have HI : Hid (CyI w xs n (.int .i64 ((i + 1 : Nat) : Int)) v4 W4) := by
      refine ⟨⟨i + 1, ys ++ [(x, s2)], by omega, rfl, ?_, ?_, fun e => by omega⟩, ?_⟩
      · rw [List.map_append, HM.out, (List.take_append_getElem hil).symm, List.map_append, List.map_singleton, List.map_singleton, HXO.out.2]
      · refine Cps.app (HC2.out.bel HA3.out) ((HO2.out.bel HA3.out).mono HS2.out.2) (fun g e hin => ?_) ⟨HOKW.out.bp, HOKW.out.bm, HOKW.out.bc, HOKW.out.org, HOKW.out.pref⟩ ho4.out hg4.out (by have h9 := hv4.out; simpa using h9)
        have h5 := (HO2.out.lt hin).1
        have h6 := (HC1.out.own.row.lt g e).2
        omega
      · have h7 : Below w.heap.size w (W2.alloc (Obj.cells (EO.enc (x, s2)).toArray 35)) := HB1w.out.trans ((HB2.out.mono HS2.out.2).trans (HA3.out.mono HS2.out.1))
        exact h7.grown hg4.out h7.size (fun k e => (HC2.out.own.row.lt k e).1)
    clear ho4 hg4 hv4
    go_wp2_with fail
    refine ⟨HI.out, ?_⟩
    simp [intOf]
    omega
end Go.Proofs.Ytkahjibdmhaglaa.Ch
