/- Reaches: each way that is known, copied, in order. -/
import Derived.Test.YthhdpfgepjmgkaaDkD
namespace Go.Proofs.Ythhdpfgepjmgkaa.Dj
open Go.ChangeShapes Go.WideShapes Go.ChangeAt Go.RowKit Go.Joins Go.Deep Go.Shelf Go.Lib Go.Sort Go.Proofs.Ythhdpfgepjmgkaa.Ge
set_option linter.unusedVariables false
set_option linter.unusedSimpArgs false

def key (r : Rc) : Int × Int × List Int := (r.n, r.d, r.ls)
/-- ways in memory, each list a block of its own -/
structure Ws (w : World) (rs : List Rc) (W : World) : Prop where
  ck : ∀ q ∈ rs, OwnL EI w.heap.size W (lv q) q.ls
  pw : rs.Pairwise (fun p q => ∀ g, (lv p).ownBlock = some g → (lv q).ownBlock ≠ some g)
theorem Ws.blk {w W W' : World} {rs : List Rc} (h : Ws w rs W) (hb : ∀ q ∈ rs, ∀ g, (lv q).ownBlock = some g → g < W.heap.size → W'.heap[g]? = W.heap[g]?) : Ws w rs W' := ⟨fun q hq => (h.ck q hq).blk (fun g e => hb q hq g e ((h.ck q hq).row.lt g e).2), h.pw⟩
theorem Ws.add {w W W' : World} {rs : List Rc} (h : Ws w rs W) (hb : Below W.heap.size W W') (hw : w.heap.size ≤ W.heap.size) {q : Rc} (hq : OwnL EI W.heap.size W' (lv q) q.ls) : Ws w (rs ++ [q]) W' := by
  refine ⟨fun p hp => ?_, List.pairwise_append.2 ⟨h.pw, List.pairwise_singleton _ _, fun p hp q' hq' g e1 e2 => ?_⟩⟩
  · rcases List.mem_append.1 hp with c | c
    · exact (h.ck p c).blk (fun g e => hb.block g ((h.ck p c).row.lt g e).2)
    · rw [List.mem_singleton] at c
      subst c
      exact hq.mono hw
  · rw [List.mem_singleton] at hq'
    subst hq'
    have h1 := ((h.ck p hp).row.lt g e1).2
    have h2 := (hq.row.lt g e2).1
    omega
structure RhI (w : World) (r kb : Nat) (kc : Nat) (seen : Array Nat) (vs : Ents Int Rc) (ov : Value) (rs : List Rc) (W : World) : Prop where
  bel : Below w.heap.size w W
  it : IB r kb kc seen kc W
  ow : OwnL ER w.heap.size W ov rs
  fa : rs.map key = vs.map (fun y => key y.2.1)
  ws : Ws w rs W
  ap : ∀ q ∈ rs, ∀ g, (lv q).ownBlock = some g → ov.ownBlock ≠ some g
  rl : w.heap.size ≤ r ∧ ov.ownBlock ≠ some r ∧ ∀ q ∈ rs, (lv q).ownBlock ≠ some r
theorem RhI.nx {w : World} {r kb kc : Nat} {seen : Array Nat} {vs : Ents Int Rc} {ov : Value} {rs : List Rc} {W W' : World} (h : RhI w r kb kc seen vs ov rs W) (hb : Below W.heap.size W W') : RhI w r kb kc seen vs ov rs W' :=
  ⟨h.bel.trans (hb.mono h.bel.size), h.it.blk (hb.block r h.it.lt), h.ow.bel hb, h.fa, h.ws.blk (fun q hq g e hl => hb.block g hl), h.ap, h.rl⟩
theorem rbuild_run {o : Oper} (x : Operand) (ho : o.op = .buildSlice 23 1 #[(0, x)]) {ρ : Operand → Value} {m : Rc} {W : World} (hx : ρ x = .agg (rcL m).toArray) : (execOp ρ o).run Try.prog W = .ok (.value (.slice (some ⟨W.heap.size, 0, none⟩) 1 1)) (W.alloc (Obj.cells (rcL m).toArray 32)) := by
  unfold execOp
  rw [ho]
  simp [go_sem, hx, rcL]
theorem list_rbuild {ops : Array Oper} {rest : List Oper} {o : Oper} {ac : Act} {Q : Exit → Act → World → Prop} {W : World} (hgd : o.guard = none) (x : Operand) (ho : o.op = .buildSlice 23 1 #[(0, x)]) {m : Rc} (hx : ac.eval x = .agg (rcL m).toArray)
    (k : ∀ b W', Hid (W.heap.size = b) → Hid (Lst ER W' (some ⟨b, 0, none⟩) [m]) → Hid (Below W.heap.size W W') → wpList Try.prog ops Q rest (ac.put o.dst (.slice (some ⟨b, 0, none⟩) 1 1)) W') : wpList Try.prog ops Q (o :: rest) ac W := by
  refine wpList_plain hgd fun K hK => ?_
  unfold Oper.wp
  rw [rbuild_run x ho hx]
  exact hK _ _ (k _ _ rfl ((own_made ER (W := W) [m] 1 rfl (by decide) rfl).1.lst.1) ((Below.refl _ W).alloc (Nat.le_refl _) _))
/-- what Reaches hands out -/
def RhPost (w : World) (f : Kw) (e : Ending) (w' : World) : Prop := ∃ a n c rs, e = .returned (.slice a n c) ∧ rs.length = n ∧ Lst ER w' a rs ∧ (a = none → n = 0 ∧ c = 0) ∧ rs.Pairwise (fun p q => p.n < q.n) ∧ (∀ v d ls, f v = some (d, ls) ↔ ∃ q ∈ rs, q.n = v ∧ q.d = d ∧ q.ls = ls) ∧ Ws w rs w' ∧ (∀ b o s, a = some ⟨b, o, s⟩ → o = 0 ∧ s = none ∧ w.heap.size ≤ b ∧ b < w'.heap.size ∧ (∀ k, k < n * 3 → w'.frozen? ⟨b, k, none⟩ = false) ∧ n ≤ c ∧ (∀ q ∈ rs, (lv q).ownBlock ≠ some b) ∧ OwnL ER w.heap.size w' (.slice a n c) rs) ∧ Below w.heap.size w w'
theorem rs_known {f : Kw} {W : World} {F : Nat → Prop} {ks vs : Ents Int Rc} {kc : Nat} {rs : List Rc} (hok : Mok ks kc) (h4 : ∀ n, mget ks n = none → f n = none) (h5 : ∀ n r, mget ks n = some r → r.n = n ∧ f n = some (r.d, r.ls) ∧ RcOk F W r) (hp : vs.Perm ks) (hfa : rs.map key = vs.map (fun y => key y.2.1)) (v d : Int) (ls : List Int) : f v = some (d, ls) ↔ ∃ q ∈ rs, q.n = v ∧ q.d = d ∧ q.ls = ls := by
  have hk : (∃ q ∈ rs, q.n = v ∧ q.d = d ∧ q.ls = ls) ↔ (v, d, ls) ∈ rs.map key := by
    rw [List.mem_map]
    exact ⟨fun ⟨q, h1, h2, h3, h4⟩ => ⟨q, h1, by unfold key; rw [h2, h3, h4]⟩, fun ⟨q, h1, h2⟩ => by unfold key at h2; cases h2; exact ⟨q, h1, rfl, rfl, rfl⟩⟩
  rw [hk, hfa, List.mem_map]
  refine ⟨fun h => ?_, fun ⟨y, hy, e⟩ => ?_⟩
  · cases hg : mget ks v with
    | none => rw [h4 v hg] at h; cases h
    | some r =>
      obtain ⟨x, hx, e1, e2⟩ := mem_of_mget hg
      obtain ⟨a1, a2, -⟩ := h5 v r hg
      rw [a2] at h
      cases h
      exact ⟨x, hp.mem_iff.2 hx, by unfold key; rw [e2, a1]⟩
  · have h1 := mget_of_mem hok (hp.mem_iff.1 hy)
    obtain ⟨a1, a2, -⟩ := h5 _ _ h1
    unfold key at e
    cases e
    rw [a1]
    exact a2
theorem rs_nodup {f : Kw} {W : World} {F : Nat → Prop} {ks vs : Ents Int Rc} {kc : Nat} {rs : List Rc} (hok : Mok ks kc) (h5 : ∀ n r, mget ks n = some r → r.n = n ∧ f n = some (r.d, r.ls) ∧ RcOk F W r) (hp : vs.Perm ks) (hfa : rs.map key = vs.map (fun y => key y.2.1)) : (rs.map (·.n)).Nodup := by
  have h1 : rs.map (·.n) = vs.map (fun y => y.1) := by
    have h2 : (rs.map key).map (·.1) = (vs.map (fun y => key y.2.1)).map (·.1) := by rw [hfa]
    rw [List.map_map, List.map_map] at h2
    refine h2.trans (List.map_congr_left (fun y hy => ?_))
    exact (h5 _ _ (mget_of_mem hok (hp.mem_iff.1 hy))).1
  rw [h1]
  exact (hp.map _).nodup_iff.2 hok.nk
theorem pw_lt {rs : List Rc} (h : rs.Pairwise (fun p q => p.n ≤ q.n)) (hn : (rs.map (·.n)).Nodup) : rs.Pairwise (fun p q => p.n < q.n) := by
  have h2 : rs.Pairwise (fun p q => p.n ≠ q.n) := by
    have := List.nodup_iff_pairwise_ne.1 hn
    rwa [List.pairwise_map] at this
  exact (h.and h2).imp (fun ⟨a, b⟩ => by omega)
set_option maxRecDepth 100000 in
set_option maxHeartbeats 32000000 in
theorem reaches_any (b : Nb) (root : Int) (tb kb : Nat) (f : Kw) (k : Nat) (F : Nat → Prop) (U : List Int) (w : World) (ht : SB TrK tb (trL b root kb) w) (hk : Kn kb f k F w) (hf : FOk f U) (hkn : k < 1000000000) : Calls Try.prog 19 #[.pointer (some ⟨tb, 0, none⟩)] w (RhPost w f) := by
  obtain ⟨ks, kc, hm, hok, hl, h4, h5⟩ := hk.ex
  have HT : Hid (SB TrK tb (trL b root kb) w) := ht
  have HM : Hid (MB MIR kb ks kc w) := hm
  have HK : Hid (Mok ks kc ∧ ks.length = k ∧ k < 1000000000 ∧ (∀ n, mget ks n = none → f n = none) ∧ (∀ n r, mget ks n = some r → r.n = n ∧ f n = some (r.d, r.ls) ∧ RcOk F w r) ∧ FOk f U) := ⟨hok, hl, hkn, h4, h5, hf⟩
  have c5 : w.cell? ⟨tb, 5, none⟩ = some (.map (some kb)) := ht.cell 5
  clear hm hok hl h4 h5 hf hkn ht hk
  go_enter Try.func19, Try.ntmps19
  go_wp2_with (refine list_range MIR rfl _ rfl (b := kb) (es := ks) (c := kc) rfl HM.out ?_)
  intro r w2 hr hib hb2
  have HI2 : Hid (RhI w r kb kc #[] [] (.slice none 0 0) [] w2) := ⟨hb2.out, hib.out, OwnL.nil _ _ _, rfl, ⟨fun q hq => absurd hq List.not_mem_nil, List.Pairwise.nil⟩, fun q hq => absurd hq List.not_mem_nil, ⟨by rw [← hr.out]; exact Nat.le_refl _, fun c => (by cases c), fun q hq => absurd hq List.not_mem_nil⟩⟩
  clear hr hib hb2 c5
  go_wp2_with fail
  go_loopw [3, 5] (fun ov _ wr => ∃ seen vs us rs, RhI w r kb kc seen vs ov rs wr ∧ Rg ks seen vs us) (fun _ _ wr => ks.length - sn wr r)
  case atStart => exact ⟨#[], [], ks, [], HI2.out, Rg.nil ks⟩
  case round =>
    obtain ⟨seen, vs, us, rs, hi, hrg⟩ := hrel
    obtain ⟨wy, hwy⟩ : ∃ y, wr = y := ⟨_, rfl⟩
    rw [hwy] at hi ⊢
    obtain ⟨oa, oc, rfl, hoc, hoz, hog⟩ := hi.ow.form
    obtain ⟨on, hon⟩ : ∃ y, rs.length = y := ⟨_, rfl⟩
    rw [hon] at hi hoc hoz ⊢
    have HI : Hid (RhI w r kb kc seen vs (.slice oa on oc) rs wy) := hi
    have HON : Hid (rs.length = on ∧ on ≤ oc ∧ (oa = none → on = 0 ∧ oc = 0) ∧ ∀ b o, oa = some ⟨b, o, none⟩ → o = 0 ∧ w.heap.size ≤ b ∧ b < wy.heap.size) := ⟨hon, hoc, hoz, hog⟩
    have HRG : Hid (Rg ks seen vs us) := hrg
    have HSN : Hid (sn wy r = seen.size) := sn_of hi.it
    have HMY : Hid (MB MIR kb ks kc wy) := HM.out.blk (hi.bel.block kb HM.out.lt)
    have HLN : Hid (rs.length = vs.length) := by have h1 := congrArg List.length hi.fa; rw [List.length_map, List.length_map] at h1; exact h1
    clear hi hrg hwy HI2 hon hoc hoz hog
    go_wp2_with (refine list_next MIR rfl _ rfl (r := r) (b := kb) (since := kc) (c0 := kc) (c := kc) (seen := seen) (es := ks) rfl HI.out.it HMY.out HK.out.1.lt (Nat.le_refl _) ?_ ?_)
    case' refine_1 =>
      intro hall
      have HPM : Hid (vs.Perm ks) := HRG.out.done HK.out.1 hall.out
      have HND : Hid ((rs.map (·.n)).Nodup) := rs_nodup HK.out.1 HK.out.2.2.2.2.1 HPM.out HI.out.fa
      have HKN : Hid (∀ v d ls, f v = some (d, ls) ↔ ∃ q ∈ rs, q.n = v ∧ q.d = d ∧ q.ls = ls) := fun v d ls => rs_known HK.out.1 HK.out.2.2.2.1 HK.out.2.2.2.2.1 HPM.out HI.out.fa v d ls
      have HBN : Hid (on < 1000000000) := by have h1 := HPM.out.length_eq; have h2 := HLN.out; have h3 := HK.out; have h4 := HON.out.1; show _ < _; omega
      clear hall HRG HSN HMY HLN
      cases oa with
      | none =>
        obtain ⟨rfl, rfl⟩ := HON.out.2.2.1 rfl
        have hx0 : rs = [] := List.length_eq_zero_iff.1 HON.out.1
        subst hx0
        have HE : Hid (RhPost w f (.returned (.slice none 0 0)) wy) := ⟨none, 0, 0, [], rfl, rfl, ⟨by simp, fun i hi => absurd hi (by simp)⟩, fun _ => ⟨rfl, rfl⟩, List.Pairwise.nil, HKN.out, HI.out.ws, fun b o s e => (by cases e), HI.out.bel⟩
        have hcon := AnyF.slices_SortFunc_none Try.sortPf none 0 (.func (.func 29) #[] #[]) wy
        change Calls Try.prog 28 _ _ _ at hcon
        go_wp2_with fail
        refine hcon.mono ?_
        rintro e w3 ⟨rfl, hw3⟩
        rw [hw3]
        clear hw3 w3 hcon
        go_wp2_with fail
        go_ret
        exact HE.out
      | some ad =>
        obtain ⟨g, og, sp⟩ := ad
        have hgf : og = 0 ∧ sp = none := by
          rcases HI.out.ow.row.2 with ⟨h1, -⟩ | ⟨g', c', cur, h1, -⟩
          · cases h1
          · cases h1; exact ⟨rfl, rfl⟩
        obtain ⟨rfl, rfl⟩ := hgf
        have HSO := rsort_any w.heap.size g on oc rs wy HI.out.ow (by have := HBN.out; omega)
        go_wp2_with fail
        refine HSO.mono ?_
        rintro e w3 ⟨rfl, ys, hper, hpw, hlst, hgr, hfr, hown⟩
        have HE : Hid (RhPost w f (.returned (.slice (some ⟨g, 0, none⟩) on oc)) w3) := by
          have hgb : w.heap.size ≤ g ∧ g < wy.heap.size := (HON.out.2.2.2 g 0 rfl).2
          refine ⟨some ⟨g, 0, none⟩, on, oc, ys, rfl, hper.length_eq.trans HON.out.1, hlst, fun c => (by cases c), pw_lt hpw ((hper.map _).nodup_iff.2 HND.out), fun v d ls => (HKN.out v d ls).trans ⟨fun ⟨q, hq, h⟩ => ⟨q, hper.mem_iff.2 hq, h⟩, fun ⟨q, hq, h⟩ => ⟨q, hper.mem_iff.1 hq, h⟩⟩, ⟨fun q hq => (HI.out.ws.ck q (hper.mem_iff.1 hq)).blk (fun x e => hgr.block x ((HI.out.ws.ck q (hper.mem_iff.1 hq)).row.lt x e).2 (fun c => HI.out.ap q (hper.mem_iff.1 hq) x e c.symm)), (hper.pairwise_iff (fun {p q} h x e1 e2 => h x e2 e1)).2 HI.out.ws.pw⟩, fun b o s e => ?_, HI.out.bel.trans ((Below.refl _ wy).grown hgr HI.out.bel.size (fun x e => by cases e; exact hgb.1))⟩
          cases e
          exact ⟨rfl, rfl, hgb.1, Nat.lt_of_lt_of_le hgb.2 hgr.size, hfr, HON.out.2.1, fun q hq c => HI.out.ap q (hper.mem_iff.1 hq) _ c rfl, hown⟩
        clear hper hpw hlst hgr hfr hown HSO
        go_wp2_with fail
        go_ret
        exact HE.out
    case' refine_2 =>
      intro xe w9 hx hib9 hk9
      obtain ⟨x⟩ := xe
      dsimp only at hx hib9 ⊢
      have HXM : Hid (x ∈ ks ∧ x.2.2 ∉ seen) := hx.out
      obtain ⟨us', hrg'⟩ := HRG.out.step hx.out.1 hx.out.2
      have HRG2 : Hid (Rg ks (seen.push x.2.2) (vs ++ [x]) us') := hrg'
      have HLT : Hid (seen.size < ks.length) := HRG.out.lt hx.out.1 hx.out.2
      have HI9 : Hid (RhI w r kb kc (seen.push x.2.2) vs (.slice oa on oc) rs w9) := by
        have hl := HI.out.rl
        exact ⟨HI.out.bel.trans (hk9.out.below hl.1), hib9.out, HI.out.ow.blk (fun g e => hk9.out.block g (fun c => hl.2.1 (by rw [← c]; exact e))), HI.out.fa, HI.out.ws.blk (fun q hq g e _ => hk9.out.block g (fun c => hl.2.2 q hq (by rw [← c]; exact e))), HI.out.ap, hl⟩
      have HM9 : Hid (MB MIR kb ks kc w9) := HM.out.blk (HI9.out.bel.block kb HM.out.lt)
      have HXK : Hid (x.2.1.n = x.1 ∧ f x.1 = some (x.2.1.d, x.2.1.ls) ∧ RcOk F w x.2.1) := HK.out.2.2.2.2.1 _ _ (mget_of_mem HK.out.1 hx.out.1)
      have HBN : Hid (on < 1000000000) := by have h1 := HRG.out.perm.length_eq; rw [List.length_append] at h1; have h2 := HLN.out; have h3 := HK.out; have h4 := HON.out.1; show _ < _; omega
      obtain ⟨xk, x, st⟩ := x
      dsimp only at HXK HRG2 HI9 HXM
      clear hx hib9 hk9 hrg' HI HRG HMY HLN
      go_wp2_with (first | (refine list_entry MIR rfl _ rfl (r := r) (b := kb) (since := kc) (c := kc) (seen := seen) (es := ks) (y := (xk, x, st)) rfl HI9.out.it HM9.out HXM.out.1 HK.out.1.nb ?_) | (refine list_newl RcK _ z_rc rfl rfl ?_))
      intro b5 w10 hb10 hs10 hbl10
      have HS10 : Hid (SB RcK b5 (rcL zr) w10) := hs10.out
      have HB10 : Hid (w9.heap.size ≤ b5 ∧ Below w9.heap.size w9 w10) := ⟨by rw [hb10.out]; exact Nat.le_refl _, hbl10.out⟩
      clear hb10 hs10 hbl10
      go_wp2_with (refine list_sstore RcK rfl _ _ rfl (b := b5) (cs := rcL zr) (cs' := rcL x) rfl rfl HS10.out rfl rfl rfl ?_)
      intro w11 hs11 hk11
      have HI11 : Hid (RhI w r kb kc (seen.push st) vs (.slice oa on oc) rs w11) := HI9.out.nx (HB10.out.2.trans (hk11.out.below HB10.out.1))
      have HS11 : Hid (SB RcK b5 (rcL x) w11) := hs11.out
      clear hs11 hk11 HS10 HB10 HI9 HM9
      go_wp2_with (refine list_sload RcK rfl _ rfl (b := b5) (cs := rcL x) rfl HS11.out rfl ?_)
      refine (own_any x w11 (HXK.out.2.2.l.bel HI11.out.bel) HXK.out.2.2.z (by have := (HK.out.2.2.2.2.2 _ _ _ HXK.out.2.1).2.2.2; omega)).mono ?_
      rintro e w12 ⟨y, rfl, hyn, hyd, hyl, hyo, hyb⟩
      have HY : Hid (key y = key x ∧ OwnL EI w11.heap.size w12 (lv y) y.ls ∧ Below w11.heap.size w11 w12) := ⟨by unfold key; rw [hyn, hyd, hyl], hyo, hyb⟩
      clear hyn hyd hyl hyo hyb HS11
      go_wp2_with (refine list_rbuild rfl _ rfl (m := y) rfl ?_)
      intro b13 w13 hb13 hl13 hbl13
      have HL13 : Hid (Lst ER w13 (some ⟨b13, 0, none⟩) [y]) := hl13.out
      have HB13 : Hid (Below w12.heap.size w12 w13) := hbl13.out
      clear hb13 hl13 hbl13
      have HI13 : Hid (RhI w r kb kc (seen.push st) vs (.slice oa on oc) rs w13) := (HI11.out.nx HY.out.2.2).nx HB13.out
      have HW13 : Hid (Ws w (rs ++ [y]) w13) := HI11.out.ws.add (HY.out.2.2.trans (HB13.out.mono HY.out.2.2.size)) HI11.out.bel.size (HY.out.2.1.bel HB13.out)
      have HYL : Hid (∀ g, (lv y).ownBlock = some g → w11.heap.size ≤ g) := fun g e => (HY.out.2.1.row.lt g e).1
      have HOL : Hid (∀ g, (Value.slice oa on oc).ownBlock = some g → g < w11.heap.size) := fun g e => (HI11.out.ow.row.lt g e).2
      have HRL : Hid (r < w11.heap.size) := HI11.out.it.lt
      have HYB : Hid (∀ q ∈ rs ++ [y], ∀ g, (lv q).ownBlock = some g → g < w13.heap.size) := fun q hq g e => ((HW13.out.ck q hq).row.lt g e).2
      go_wp2_with (refine list_appL ER rfl _ _ 23 rfl rfl w.heap.size (.slice oa on oc) rs [y] (some ⟨b13, 0, none⟩) 1 1 w13 (by have h1 := HBN.out; have h2 := HON.out.1; omega) rfl HI13.out.ow rfl HL13.out (fun e => by cases e) rfl HI13.out.bel.size ?_)
      intro v14 w14 ho14 hg14 ha14
      have HG : Hid ((∃ seen vs us rs, RhI w r kb kc seen vs v14 rs w14 ∧ Rg ks seen vs us) ∧ ks.length - sn w14 r < ks.length - sn wy r) := by
        have hne : ∀ g, g < w13.heap.size → (Value.slice oa on oc).ownBlock ≠ some g → w14.heap[g]? = w13.heap[g]? := fun g hl hn => hg14.out.block g hl (Ne.symm hn)
        have hapy : ∀ q ∈ rs ++ [y], ∀ g, (lv q).ownBlock = some g → (Value.slice oa on oc).ownBlock ≠ some g := fun q hq g e c => by
          rcases List.mem_append.1 hq with h | h
          · exact HI13.out.ap q h g e c
          · rw [List.mem_singleton] at h
            subst h
            have h1 := HYL.out g e
            have h2 := HOL.out g c
            omega
        have hit := HI13.out.it.blk (hne r HI13.out.it.lt HI13.out.rl.2.1)
        refine ⟨⟨seen.push st, vs ++ [(xk, x, st)], us', rs ++ [y], ⟨HI13.out.bel.trans ((Below.refl _ w13).grown hg14.out HI13.out.bel.size (fun g e => (HI13.out.ow.row.lt g e).1)), hit, ho14.out, by rw [List.map_append, List.map_append, HI13.out.fa]; simp [HY.out.1], HW13.out.blk (fun q hq g e hl => hne g hl (hapy q hq g e)), fun q hq g e c => ?_, HI13.out.rl.1, fun c => ?_, fun q hq c => ?_⟩, HRG2.out⟩, ?_⟩
        · rcases ha14.out with h | h
          · exact hapy q hq g e (by rw [← h]; exact c)
          · rw [h] at c
            cases c
            have := HYB.out q hq _ e
            omega
        · rcases ha14.out with h | h
          · exact HI13.out.rl.2.1 (by rw [← h]; exact c)
          · rw [h] at c
            cases c
            have := HI13.out.it.lt
            omega
        · rcases List.mem_append.1 hq with h | h
          · exact HI13.out.rl.2.2 q h c
          · rw [List.mem_singleton] at h
            subst h
            have h1 := HYL.out r c
            have h2 := HRL.out
            omega
        · rw [sn_of hit, HSN.out, Array.size_push]
          have := HLT.out
          omega
      obtain ⟨va, n4, c4, rfl⟩ : ∃ a n c, v14 = .slice a n c := by obtain ⟨a, c, h, -⟩ := ho14.out.form; exact ⟨a, _, c, h⟩
      clear ho14 hg14 ha14 HI13 HW13
      go_wp2_with fail
      exact HG.out
end Go.Proofs.Ythhdpfgepjmgkaa.Dj
