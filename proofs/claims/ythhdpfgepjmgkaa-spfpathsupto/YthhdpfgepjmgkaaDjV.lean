/- A tree in memory; now, stands. -/
import Derived.Test.YthhdpfgepjmgkaaDjU
namespace Go.Proofs.Ythhdpfgepjmgkaa.Dj
open Go.ChangeShapes Go.WideShapes Go.ChangeAt Go.RowKit Go.Joins Go.Deep Go.Proofs.Ythhdpfgepjmgkaa.Ge
set_option linter.unusedVariables false
set_option linter.unusedSimpArgs false

/-- a network that can be read, wherever all below B stays -/
structure NgB (B : Nat) (b : Nb) (vs : List Ed) (W : World) : Prop where
  rd : ∀ W', Below B W W' → ∃ N Fo Fi em cm eo co ei ci, Nw N b vs Fo Fi em cm eo co ei ci W'
theorem NgB.nx {B : Nat} {b : Nb} {vs : List Ed} {W W' : World} (h : NgB B b vs W) (hb : Below B W W') : NgB B b vs W' := ⟨fun W2 h2 => h.rd W2 (hb.trans h2)⟩
/-- a way whose links can be read; their block is of F -/
structure RcOk (F : Nat → Prop) (W : World) (r : Rc) : Prop where
  l : Lst EI W r.a r.ls
  z : r.a = none → r.ls.length = 0 ∧ r.c = 0
  f : ∀ g o q, r.a = some ⟨g, o, q⟩ → F g ∧ g < W.heap.size
theorem RcOk.blk {F : Nat → Prop} {W W' : World} {r : Rc} (h : RcOk F W r) (hs : W.heap.size ≤ W'.heap.size) (hb : ∀ g, F g → g < W.heap.size → W'.heap[g]? = W.heap[g]?) : RcOk F W' r := ⟨h.l.keep hs (fun b o e hl => hb b (h.f b o none e).1 hl), h.z, fun g o q e => ⟨(h.f g o q e).1, Nat.lt_of_lt_of_le (h.f g o q e).2 hs⟩⟩
theorem RcOk.bel {F : Nat → Prop} {W W' : World} {r : Rc} (h : RcOk F W r) (hb : Below W.heap.size W W') : RcOk F W' r := h.blk hb.size (fun g _ hl => hb.block g hl)
theorem RcOk.mono {F G : Nat → Prop} {W : World} {r : Rc} (h : RcOk F W r) (hF : ∀ g, F g → G g) : RcOk G W r := ⟨h.l, h.z, fun g o q e => ⟨hF g (h.f g o q e).1, (h.f g o q e).2⟩⟩
/-- what is known, in memory: k routers -/
structure Kn (kb : Nat) (f : Kw) (k : Nat) (F : Nat → Prop) (W : World) : Prop where
  ex : ∃ ks kc, MB MIR kb ks kc W ∧ Mok ks kc ∧ ks.length = k ∧ (∀ n, mget ks n = none → f n = none) ∧ ∀ n r, mget ks n = some r → r.n = n ∧ f n = some (r.d, r.ls) ∧ RcOk F W r
theorem Kn.lt {kb : Nat} {f : Kw} {k : Nat} {F : Nat → Prop} {W : World} (h : Kn kb f k F W) : kb < W.heap.size := by
  obtain ⟨ks, kc, h1, -⟩ := h.ex
  exact h1.lt
theorem Kn.blk {kb : Nat} {f : Kw} {k : Nat} {F : Nat → Prop} {W W' : World} (h : Kn kb f k F W) (hs : W.heap.size ≤ W'.heap.size) (hb : ∀ g, (g = kb ∨ F g) → g < W.heap.size → W'.heap[g]? = W.heap[g]?) : Kn kb f k F W' := by
  obtain ⟨ks, kc, h1, h2, h3, h4, h5⟩ := h.ex
  exact ⟨ks, kc, h1.blk (hb kb (.inl rfl) h1.lt), h2, h3, h4, fun n r hr => ⟨(h5 n r hr).1, (h5 n r hr).2.1, (h5 n r hr).2.2.blk hs (fun g hg hl => hb g (.inr hg) hl)⟩⟩
theorem Kn.bel {kb : Nat} {f : Kw} {k : Nat} {F : Nat → Prop} {W W' : World} (h : Kn kb f k F W) (hb : Below W.heap.size W W') : Kn kb f k F W' := h.blk hb.size (fun g _ hl => hb.block g hl)
theorem Kn.kf {kb : Nat} {f : Kw} {k : Nat} {F G : Nat → Prop} {W W' : World} (h : Kn kb f k F W) (hk : Kf G W W') (hd : ∀ g, (g = kb ∨ F g) → ¬ G g) : Kn kb f k F W' := h.blk hk.size (fun g hg hl => hk.blk g hl (hd g hg))
def trL (b : Nb) (root : Int) (kb : Nat) : List Value := [.map (some b.e), .map (some b.m), .map (some b.o), .map (some b.i), .int .i64 root, .map (some kb)]
def zr : Rc := ⟨0, 0, [], none, 0⟩
theorem got_ir (ks : Ents Int Rc) (n : Int) : MIR.got ks n = rcV ((mget ks n).getD zr) := by
  unfold Mk.got
  cases mget ks n <;> rfl
def NowPost (w : World) (f : Kw) (F : Nat → Prop) (n : Int) (e : Ending) (w' : World) : Prop := ∃ r : Rc, e = .returned (.agg (rcL r).toArray) ∧ r.n = n ∧ nowP f n = (r.d, r.ls) ∧ RcOk F w' r ∧ Below w.heap.size w w'
set_option maxRecDepth 100000 in
set_option maxHeartbeats 16000000 in
theorem now_any (b : Nb) (root : Int) (tb kb : Nat) (f : Kw) (k : Nat) (F : Nat → Prop) (n : Int) (w : World) (ht : SB TrK tb (trL b root kb) w) (hk : Kn kb f k F w) : Calls Try.prog 38 #[.pointer (some ⟨tb, 0, none⟩), .int .i64 n] w (NowPost w f F n) := by
  obtain ⟨ks, kc, hm, hok, hlen, hno, hyes⟩ := hk.ex
  have HT : Hid (SB TrK tb (trL b root kb) w) := ht
  have HM : Hid (MB MIR kb ks kc w) := hm
  have HNO : Hid (∀ n, mget ks n = none → f n = none) := hno
  have HYES : Hid (∀ n r, mget ks n = some r → r.n = n ∧ f n = some (r.d, r.ls) ∧ RcOk F w r) := hyes
  clear ht hk hm hok hlen hno hyes
  go_enter Try.func38, Try.ntmps38
  go_wp2_with (refine list_newl RcK _ z_rc rfl rfl ?_)
  intro b4 w1 hb4 hs4 hbl4
  have HB1 : Hid (w.heap.size = b4 ∧ Below w.heap.size w w1) := ⟨hb4.out, hbl4.out⟩
  have HS4 : Hid (SB RcK b4 (rcL zr) w1) := hs4.out
  have HM1 : Hid (MB MIR kb ks kc w1) := HM.out.blk (hbl4.out.block kb HM.out.lt)
  have c5 : w1.cell? ⟨tb, 5, none⟩ = some (.map (some kb)) := (HT.out.blk (hbl4.out.block tb HT.out.lt)).cell 5
  clear hb4 hs4 hbl4
  go_wp2_with (first | (refine list_look2 MIR rfl _ _ rfl (k := n) rfl rfl HM1.out ?_; rw [got_ir]) | (refine list_newl RcK _ z_rc rfl rfl ?_))
  intro b5 w2 hb5 hs5 hbl5
  have HB2 : Hid (b4 ≠ b5 ∧ w.heap.size ≤ b4 ∧ w.heap.size ≤ b5 ∧ Below w.heap.size w w2) := ⟨by have := hb5.out; have := HS4.out.lt; omega, by have := HB1.out.1; omega, by have := hb5.out; have := HB1.out.2.size; omega, HB1.out.2.trans (hbl5.out.mono HB1.out.2.size)⟩
  have HS42 : Hid (SB RcK b4 (rcL zr) w2) := HS4.out.blk (hbl5.out.block b4 HS4.out.lt)
  have HS5 : Hid (SB RcK b5 (rcL zr) w2) := hs5.out
  clear hb5 hs5 hbl5 HS4 HM1 HB1 c5
  cases hg : mget ks n with
  | none =>
    have HF : Hid (f n = none) := HNO.out n hg
    clear hg
    go_wp2_with (refine list_sstore RcK rfl _ _ rfl (b := b5) (cs := rcL zr) (cs' := rcL zr) rfl rfl HS5.out rfl rfl rfl ?_)
    intro w3 hs3 hk3
    have HB3 : Hid (Below w.heap.size w w3) := HB2.out.2.2.2.trans (hk3.out.below HB2.out.2.2.1)
    have HS43 : Hid (SB RcK b4 (rcL zr) w3) := HS42.out.blk (hk3.out.block b4 HB2.out.1)
    clear hs3 hk3 HS42 HS5
    go_wp2_with (refine list_sstore RcK rfl _ _ rfl (b := b4) (cs := rcL zr) (cs' := rcL ⟨n, 4611686018427387903, [], none, 0⟩) rfl rfl HS43.out rfl rfl rfl ?_)
    intro w4 hs4 hk4
    have HE : Hid (NowPost w f F n (.returned (.agg (rcL ⟨n, 4611686018427387903, [], none, 0⟩).toArray)) w4) := ⟨⟨n, 4611686018427387903, [], none, 0⟩, rfl, rfl, now_none HF.out, ⟨⟨by simp, fun i hi => absurd hi (by simp)⟩, fun _ => ⟨rfl, rfl⟩, fun g o q e => (by cases e)⟩, HB3.out.trans (hk4.out.below HB2.out.2.1)⟩
    have HS44 : Hid (SB RcK b4 (rcL ⟨n, 4611686018427387903, [], none, 0⟩) w4) := hs4.out
    clear hs4 hk4 HS43
    go_wp2_with fail
    exact ret_cell RcK rfl rfl HS44.out rfl rfl HE.out
  | some r =>
    obtain ⟨hrn, hf, hrk⟩ := HYES.out n r hg
    have HR : Hid (r.n = n ∧ f n = some (r.d, r.ls) ∧ RcOk F w r) := ⟨hrn, hf, hrk⟩
    clear hg hrn hf hrk
    go_wp2_with (refine list_sstore RcK rfl _ _ rfl (b := b5) (cs := rcL zr) (cs' := rcL r) rfl rfl HS5.out rfl rfl rfl ?_)
    intro w3 hs3 hk3
    have HB3 : Hid (Below w.heap.size w w3) := HB2.out.2.2.2.trans (hk3.out.below HB2.out.2.2.1)
    have HS43 : Hid (SB RcK b4 (rcL zr) w3) := HS42.out.blk (hk3.out.block b4 HB2.out.1)
    have HS53 : Hid (SB RcK b5 (rcL r) w3) := hs3.out
    clear hs3 hk3 HS42 HS5
    go_wp2_with (first | (refine list_sload RcK rfl _ rfl (b := b5) (cs := rcL r) rfl HS53.out rfl ?_) | (refine list_sstore RcK rfl _ _ rfl (b := b4) (cs := rcL zr) (cs' := rcL r) rfl rfl HS43.out rfl rfl rfl ?_))
    intro w4 hs4 hk4
    have HB4 : Hid (Below w.heap.size w w4) := HB3.out.trans (hk4.out.below HB2.out.2.1)
    have HE : Hid (NowPost w f F n (.returned (.agg (rcL r).toArray)) w4) := ⟨r, rfl, HR.out.1, now_some HR.out.2.1, HR.out.2.2.bel HB4.out, HB4.out⟩
    have HS44 : Hid (SB RcK b4 (rcL r) w4) := hs4.out
    clear hs4 hk4 HS43
    go_wp2_with fail
    exact ret_cell RcK rfl rfl HS44.out rfl rfl HE.out
set_option maxRecDepth 100000 in
set_option maxHeartbeats 8000000 in
theorem stands_any (b : Nb) (vs : List Ed) (e : Ed) (r : Bool) (hr : decide (0 < cnt vs (e.t, e.f)) = r) (w : World) (hw : ∃ N Fo Fi em cm eo co ei ci, Nw N b vs Fo Fi em cm eo co ei ci w) : Calls Try.prog 51 #[.agg (nwL b).toArray, .agg (edL e).toArray] w (BlPost w r) := by
  obtain ⟨N, Fo, Fi, em, cm, eo, co, ei, ci, hw⟩ := hw
  have HM : Hid (MB MPI b.m em cm w) := hw.mm
  have HR : Hid (decide (0 < cnt vs (e.t, e.f)) = r) := hr
  have hz := hw.get (e.t, e.f)
  obtain ⟨z, hzz⟩ : ∃ z : Nat, cnt vs (e.t, e.f) = z := ⟨_, rfl⟩
  rw [hzz] at hz
  have HZ : Hid ((mget em (e.t, e.f)).getD 0 = (z : Int)) := hz
  have HR2 : Hid (decide (0 < z) = r) := by rw [← hzz]; exact hr
  clear hw hr hz hzz
  go_enter Try.func51, Try.ntmps51
  go_upto_region 1 with first | (refine list_boxl NwK rfl _ rfl (cs := nwL b) rfl ?_; intro b2 w1 hb2 hs2 hbl2) | (refine list_boxl EdK rfl _ rfl (cs := edL e) rfl ?_; intro b3 w2 hb3 hs3 hbl3)
  have hs22 := hs2.out.blk (hbl3.out.block b2 hs2.out.lt)
  have HB : Hid (Below w.heap.size w w2) := hbl2.out.trans (hbl3.out.mono hbl2.out.size)
  have HM2 : Hid (MB MPI b.m em cm w2) := HM.out.blk (HB.out.block b.m HM.out.lt)
  have c1 : w2.cell? ⟨b2, 1, none⟩ = some (.map (some b.m)) := hs22.cell 1
  have d0 : w2.cell? ⟨b3, 0, none⟩ = some (.int .i64 e.f) := hs3.out.cell 0
  have d1 : w2.cell? ⟨b3, 1, none⟩ = some (.int .i64 e.t) := hs3.out.cell 1
  clear hb2 hs2 hbl2 hb3 hs3 hbl3 hs22
  go_wp2_with (refine list_look MPI rfl _ _ rfl (k := (e.t, e.f)) rfl rfl HM2.out ?_; rw [got_pi, HZ.out])
  go_ret
  exact ⟨congrArg (fun b => Ending.returned (.bool b)) HR2.out, HB.out⟩
end Go.Proofs.Ythhdpfgepjmgkaa.Dj
