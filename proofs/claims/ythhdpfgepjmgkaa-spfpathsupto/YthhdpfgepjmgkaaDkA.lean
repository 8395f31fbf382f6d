/- settle: from the root alone. -/
import Derived.Test.YthhdpfgepjmgkaaDjZ
namespace Go.Proofs.Ythhdpfgepjmgkaa.Dj
open Go.ChangeShapes Go.WideShapes Go.ChangeAt Go.RowKit Go.Joins Go.Deep Go.Proofs.Ythhdpfgepjmgkaa.Ge
set_option linter.unusedVariables false
set_option linter.unusedSimpArgs false

theorem snew_step {o : Oper} {a : Act} {W : World} {K : Act → World → Prop} {Q : Exit → Act → World → Prop} {c : Bool} {E : Prop} (T : Sk) (z : List Value) (hz : ∀ W, (zeroValue T.t).run Try.prog W = .ok (.agg z.toArray) W) (ho : o.op = .alloc T.t) (hc : c = true)
    (k : ∀ b W', Hid (W.heap.size = b) → Hid (SB T b z W') → Hid (Below W.heap.size W W') → K (a.put o.dst (.pointer (some ⟨b, 0, none⟩))) W') : if c = true then Oper.wp Try.prog o a W K Q else E :=
  step_run hc (znew_run T z hz ho) (k _ _ rfl (World.alloc_heap_new W _) ((Below.refl _ W).alloc (Nat.le_refl _) _))
theorem rc_keep {F : Nat → Prop} {W W' : World} {r : Rc} {b : Nat} (h : RcOk F W r) (hk : Ko W b W') (hn : ∀ g o q, r.a = some ⟨g, o, q⟩ → g ≠ b) : RcOk F W' r := by
  have h1 : RcOk (fun g => F g ∧ g ≠ b) W r := ⟨h.l, h.z, fun g o q e => ⟨⟨(h.f g o q e).1, hn g o q e⟩, (h.f g o q e).2⟩⟩
  exact (h1.blk (Nat.le_of_eq hk.size.symm) (fun g hg _ => hk.block g hg.2)).mono (fun g hg => hg.1)
/-- a router's turn has put it into what is known -/
theorem TI.put {w : World} {vs : List Ed} {root : Int} {U : List Int} {kb qb db sb : Nat} {f : Kw} {k : Nat} {F G : Nat → Prop} {due2 : Int → Option Int} {KQ : Nat} {qv sv : Value} {sx : List Int} {W W' : World} (h : TI w vs root U kb qb db sb f k F due2 KQ qv sv sx W) {x : Rc} {ks : Ents Int Rc} {kc' : Nat} (hok : Mok ks kc') (hl : ks.length = k) (h4 : ∀ n, mget ks n = none → f n = none) (h5 : ∀ n r, mget ks n = some r → r.n = n ∧ f n = some (r.d, r.ls) ∧ RcOk F W r) (hw : MB MIR kb (mput ks kc' x.n x) (mclk ks kc' x.n) W') (hk : Ko W kb W') (hx : RcOk G W x) (hG : ∀ g, G g → g < W.heap.size → w.heap.size ≤ g ∧ ¬ fpQ qb db qv g ∧ ¬ fpT sb sv g) (hn : f x.n = none) (hfo : 0 ≤ x.d ∧ x.d ≤ far ∧ (∀ y ∈ x.ls, y ∈ U) ∧ x.ls.length ≤ 100000000) : TI w vs root U kb qb db sb (putK f x.n x.d x.ls) (k + 1) (fun g => F g ∨ (G g ∧ g < W.heap.size)) due2 KQ qv sv sx W' := by
  have hs : W.heap.size ≤ W'.heap.size := Nat.le_of_eq hk.size.symm
  have hkw := h.kw
  refine ⟨h.kf.trans (Kf.of_ko (F := fun g => g = kb) hk (fun _ => rfl)) (fun _ _ c => c), Kn.put (F := F) (G := fun g => G g ∧ g < W.heap.size) hok hl h4 h5 hw hk (fun c => by have := (h.fl kb c).1; omega) (fun c => by have := (hG kb c.1 c.2).1; omega) ⟨hx.l, hx.z, fun g o q e => ⟨hx.f g o q e, (hx.f g o q e).2⟩⟩ hn, fun n d ls e => ?_, fun g hg => ?_, h.qs.blk (fun g hg hl => hk.block g (fun c => by have := (h.ql g hg).1; omega)), h.ql, h.rs.blk (fun g hg hl => hk.block g (fun c => by have := h.rl g hg; omega)), h.rl, ?_, h.kw⟩
  · unfold putK at e
    by_cases c : n = x.n
    · rw [if_pos c] at e; cases e; exact hfo
    · rw [if_neg c] at e; exact h.fo _ _ _ e
  · rcases hg with c | c
    · exact ⟨(h.fl g c).1, Nat.lt_of_lt_of_le (h.fl g c).2.1 hs, (h.fl g c).2.2⟩
    · exact ⟨(hG g c.1 c.2).1, Nat.lt_of_lt_of_le c.2 hs, (hG g c.1 c.2).2⟩
  · rw [kc_put f x.n x.d x.ls hn vs]
    have := h.kq
    omega
set_option maxRecDepth 100000 in
set_option maxHeartbeats 64000000 in
theorem settle_any (w0 : World) (N1 : Nat) (Fo Fi : Nat → Prop) (em : Ents Pt Int) (cm : Nat) (eo : Ents Int Sl) (co : Nat) (ei : Ents Int Sl) (ci : Nat) (B : Nat) (b : Nb) (vs : List Ed) (root : Int) (tb kb : Nat) (U : List Int) (a : Option Addr) (c : Nat) (w : World) (hB : w0.heap.size = B) (hnw : Nw N1 b vs Fo Fi em cm eo co ei ci w0) (hb0 : Below B w0 w) (ht : SB TrK tb (trL b root kb) w) (hk0 : MB MIR kb [] 0 w) (hkb : B ≤ kb ∧ kb ≠ tb) (hd : Lst EI w a [root]) (hdk : ∀ b o, a = some ⟨b, o, none⟩ → b ≠ kb) (ok : Okv vs) (hok : ∀ e ∈ vs, 1 ≤ e.c ∧ e.c ≤ 65535 ∧ e.l ∈ U) (hU : U.length ≤ 100000000) (hvs : vs.length < 99999999) : Calls Try.prog 26 #[.pointer (some ⟨tb, 0, none⟩), .slice a 1 c] w (TePost w vs root kb U) := by
  have HT : Hid (SB TrK tb (trL b root kb) w) := ht
  have HNW : Hid (w0.heap.size = B ∧ Nw N1 b vs Fo Fi em cm eo co ei ci w0 ∧ Below B w0 w) := ⟨hB, hnw, hb0⟩
  have HKB : Hid (B ≤ kb ∧ kb ≠ tb ∧ MB MIR kb [] 0 w) := ⟨hkb.1, hkb.2, hk0⟩
  have HDL : Hid (Lst EI w a [root]) := hd
  have HOV : Hid (Okv vs) := ok
  have HOK : Hid (∀ e ∈ vs, 1 ≤ e.c ∧ e.c ≤ 65535 ∧ e.l ∈ U) := hok
  have HUV : Hid (U.length ≤ 100000000 ∧ vs.length < 99999999) := ⟨hU, hvs⟩
  have HBW : Hid (B ≤ w.heap.size) := by have h1 := hb0.size; show _ ≤ _; omega
  have HNB : Hid (∀ W, Kf (fun g => g = kb) w W → Below B w W ∧ NgB B b vs W ∧ SB TrK tb (trL b root kb) W ∧ Below B w0 W) := fun W hW => by
    have h1 : Below B w W := hW.below HBW.out (fun g hg => by have := HKB.out.1; omega)
    exact ⟨h1, ⟨fun W2 h2 => ⟨N1, Fo, Fi, em, cm, eo, co, ei, ci, HNW.out.2.1.bel (by rw [HNW.out.1]; exact HNW.out.2.2.trans (h1.trans h2))⟩⟩, HT.out.blk (hW.blk tb HT.out.lt (fun c => HKB.out.2.1 c.symm)), HNW.out.2.2.trans h1⟩
  have HDK : Hid (∀ b o, a = some ⟨b, o, none⟩ → b ≠ kb) := hdk
  clear hdk hB hnw hb0 ht hk0 hkb hd ok hok hU hvs
  go_enter Try.func26, Try.ntmps26
  go_wp2_with fail
  refine (newq_any w.heap.size w).mono ?_
  rintro e w1 ⟨qb, db, rfl, hq1, hb1, hqb, hdb⟩
  have HQ1 : Hid (Qs w.heap.size qb db (.slice none 0 0) 0 (fun _ => none) w1) := hq1
  have HB1 : Hid (Below w.heap.size w w1 ∧ w.heap.size ≤ qb ∧ w.heap.size ≤ db) := ⟨hb1, hqb, hdb⟩
  clear hq1 hb1 hqb hdb
  go_wp2_with (refine list_newl StK _ z_st rfl rfl ?_)
  intro sb w2 hb2 hs2 hbl2
  have HB2 : Hid (w1.heap.size = sb ∧ Below w.heap.size w w2) := ⟨hb2.out, HB1.out.1.trans (hbl2.out.mono HB1.out.1.size)⟩
  have HQ2 : Hid (Qs w.heap.size qb db (.slice none 0 0) 0 (fun _ => none) w2) := HQ1.out.bel hbl2.out
  have HS2 : Hid (SB StK sb stz w2) := hs2.out
  clear hb2 hs2 hbl2
  go_wp2_with (refine list_sstore StK rfl _ _ rfl (b := sb) (cs := stz) (cs' := stz) rfl rfl HS2.out rfl rfl rfl ?_)
  intro w3 hs3 hk3
  have HSB : Hid (w.heap.size ≤ sb ∧ ¬ fpQ qb db (.slice none 0 0) sb) := ⟨by have h1 := HB2.out.1; have h2 := HB1.out.1.size; omega, fun c => by have h1 := HQ1.out.lt sb c; have h2 := HB2.out.1; omega⟩
  have HTI : Hid (TI w vs root U kb qb db sb (fun _ => none) 0 (fun _ => False) (fun _ => none) 0 (.slice none 0 0) (.slice none 0 0) [] w3) := by
    have hb3 : Below w.heap.size w w3 := HB2.out.2.trans (hk3.out.below HSB.out.1)
    have hm : MB MIR kb [] 0 w3 := HKB.out.2.2.blk (hb3.block kb HKB.out.2.2.lt)
    exact ⟨Kf.of_bel hb3, ⟨[], 0, hm, ⟨by simp, by simp, fun x hx => (by cases hx)⟩, rfl, fun n _ => rfl, fun n r h => (by cases h)⟩, fun n d ls h => (by cases h), fun g h => h.elim, HQ2.out.blk (fun g hg hl => hk3.out.block g (fun c => HSB.out.2 (by rw [← c]; exact hg))), fun g hg => ⟨(by
      rcases hg with c | c | c
      · rw [c]; exact HB1.out.2.1
      · rw [c]; exact HB1.out.2.2
      · cases c), fun c => (by
      rcases c with c | c
      · exact HSB.out.2 (by rw [← c]; exact hg)
      · cases c)⟩, Rs.zero hs3.out, fun g hg => (by
      rcases hg with c | c
      · rw [c]; exact HSB.out.1
      · cases c), Nat.zero_le _, HKB.out.2.2.lt⟩
  clear hs3 hk3 HS2 HQ2 HQ1 HB1 HB2 HSB
  go_wp2_with fail
  go_loopw [18, 8] (fun iv _ wr => ∃ (i : Nat) (qv : Value), i ≤ 1 ∧ iv = .int .i64 (i : Int) ∧ TI w vs root U kb qb db sb (fun _ => none) 0 (fun _ => False) (if i = 0 then fun _ => none else addP (fun _ => none) root 0) i qv (.slice none 0 0) [] wr) (fun iv _ _ => 1 - (intOf iv).toNat)
  case atStart => exact ⟨0, _, Nat.zero_le _, rfl, HTI.out⟩
  case round =>
    obtain ⟨i, qv, hi, rfl, hti⟩ := hrel
    obtain ⟨wz, hwz⟩ : ∃ y, wr = y := ⟨_, rfl⟩
    rw [hwz] at hti ⊢
    have HTZ : Hid (TI w vs root U kb qb db sb (fun _ => none) 0 (fun _ => False) (if i = 0 then fun _ => none else addP (fun _ => none) root 0) i qv (.slice none 0 0) [] wz) := hti
    clear hti hwz HTI
    have hi2 : i = 0 ∨ i = 1 := by omega
    rcases hi2 with rfl | rfl
    case inl =>
      have HTZ0 : Hid (TI w vs root U kb qb db sb (fun _ => none) 0 (fun _ => False) (fun _ => none) 0 qv (.slice none 0 0) [] wz) := HTZ.out
      obtain ⟨lb, lo, rfl, -, hce⟩ := (HDL.out.keep HTZ0.out.kf.size (fun b o e hl => HTZ0.out.kf.blk b hl (fun c => HDK.out b o e c))).cells 0 (by simp)
      have c0 : wz.cell? ⟨lb, lo, none⟩ = some (.int .i64 root) := by have := hce 0 (by decide); simpa [EI] using this
      clear hce
      go_wp2_with fail
      refine (now_any b root tb kb (fun _ => none) 0 (fun _ => False) root wz (HNB.out wz HTZ0.out.kf).2.2.1 HTZ0.out.kn).mono ?_
      rintro e w5 ⟨⟨zn, zd, zl, za, zc⟩, rfl, hzn, hz, hzo, hb5⟩
      have hzd : zd = 4611686018427387903 := (congrArg Prod.fst hz).symm
      subst hzd
      have hfd : ∀ W, Sem.run Try.prog (Instr.field 32 (.agg (rcL ⟨zn, 4611686018427387903, zl, za, zc⟩).toArray) 1) W = .ok (.int .i64 4611686018427387903) W := fun _ => by kernel_rfl
      have HT5 : Hid (TI w vs root U kb qb db sb (fun _ => none) 0 (fun _ => False) (fun _ => none) 0 qv (.slice none 0 0) [] w5) := HTZ0.out.nx hb5
      clear hzn hz hzo hb5 c0
      go_wp2_with fail
      refine (best_any B b vs root tb kb (fun _ => none) 0 (fun _ => False) U root w5 (Nat.le_trans HBW.out HT5.out.kf.size) (HNB.out w5 HT5.out.kf).2.2.1 (HNB.out w5 HT5.out.kf).2.1 HT5.out.kn HT5.out.fo HUV.out.1 (by have := HUV.out.2; omega) HOK.out (fun g h => h.elim)).mono ?_
      rintro e w6 ⟨⟨xn, xd, xl, xa, xc⟩, rfl, hxn, hxb, hxo, hb6, hxu, hxl⟩
      have hxd : xd = 0 := (hxb.rt rfl).1
      subst hxd
      have hfe : ∀ W, Sem.run Try.prog (Instr.field 32 (.agg (rcL ⟨xn, 0, xl, xa, xc⟩).toArray) 1) W = .ok (.int .i64 0) W := fun _ => by kernel_rfl
      have HT6 : Hid (TI w vs root U kb qb db sb (fun _ => none) 0 (fun _ => False) (fun _ => none) 0 qv (.slice none 0 0) [] w6) := HT5.out.nx hb6
      clear hxn hxb hxo hb6 hxu hxl
      go_wp2_with fail
      refine (add_any w.heap.size qb db qv 0 (fun _ => none) root 0 w6 HT6.out.kf.size (by omega) HT6.out.qs).mono ?_
      rintro e w7 ⟨rfl, qv7, hq7, hk7, ho7⟩
      have HG : Hid (TI w vs root U kb qb db sb (fun _ => none) 0 (fun _ => False) (addP (fun _ => none) root 0) 1 qv7 (.slice none 0 0) [] w7) := HT6.out.queue hk7 hq7 ho7 (by omega)
      clear hq7 hk7 ho7
      go_wp2_with fail
      refine ⟨⟨1, qv7, by omega, by simp, by simpa using HG.out⟩, ?_⟩
      simp [intOf]
    case inr =>
      have HTZ1 : Hid (TI w vs root U kb qb db sb (fun _ => none) 0 (fun _ => False) (addP (fun _ => none) root 0) 1 qv (.slice none 0 0) [] wz) := HTZ.out
      clear HTZ
      go_wp2_with fail
      refine (next_any w.heap.size qb db qv 1 (addP (fun _ => none) root 0) wz (by omega) HTZ1.out.qs).mono ?_
      rintro e w4 ⟨qv4, hk4, ho4, hor⟩
      have HOR : Hid (∃ (d n : Int) (ok : Bool) (due2 : Int → Option Int), e = .returned (.tuple #[.agg (tnL ⟨d, n⟩).toArray, .bool ok]) ∧ Qs w.heap.size qb db qv4 1 due2 w4 ∧ (ok = true → addP (fun _ => none) root 0 n = some d ∧ (∀ m dm, addP (fun _ => none) root 0 m = some dm → d ≤ dm) ∧ due2 = dropP (addP (fun _ => none) root 0) n) ∧ (ok = false → ∀ m, addP (fun _ => none) root 0 m = none)) := by
        rcases hor with ⟨h1, h2, h3⟩ | ⟨d, n, h1, h2, h3, h4⟩
        · exact ⟨0, 0, false, _, h1, h3, fun c => (by cases c), fun _ => h2⟩
        · exact ⟨d, n, true, _, h1, h4, fun _ => ⟨h2, h3, rfl⟩, fun c => (by cases c)⟩
      clear hor
      obtain ⟨d, n, ok, due2, rfl, hq4, hT4, hF4⟩ := HOR.out
      have HDU : Hid ((ok = true → addP (fun _ => none) root 0 n = some d ∧ (∀ m dm, addP (fun _ => none) root 0 m = some dm → d ≤ dm) ∧ due2 = dropP (addP (fun _ => none) root 0) n) ∧ (ok = false → ∀ m, addP (fun _ => none) root 0 m = none)) := ⟨hT4, hF4⟩
      have HT4 : Hid (TI w vs root U kb qb db sb (fun _ => none) 0 (fun _ => False) due2 1 qv4 (.slice none 0 0) [] w4) := HTZ1.out.queue hk4 hq4 (fun g hg => .inl (by rw [← ho4]; exact hg)) (by omega)
      clear HOR hk4 ho4 hq4 hT4 hF4 HTZ1
      go_wp2_with (refine list_newl TnK _ z_tn rfl rfl ?_)
      intro b9 w5 hb5 hs5 hbl5
      have HF5 : Hid (w4.heap.size ≤ b9) := by rw [hb5.out]; exact Nat.le_refl _
      have HT5 : Hid (TI w vs root U kb qb db sb (fun _ => none) 0 (fun _ => False) due2 1 qv4 (.slice none 0 0) [] w5) := HT4.out.nx hbl5.out
      have HS5 : Hid (SB TnK b9 (tnL ⟨0, 0⟩) w5) := hs5.out
      clear hb5 hs5 hbl5
      go_wp2_with (refine list_sstore TnK rfl _ _ rfl (b := b9) (cs := tnL ⟨0, 0⟩) (cs' := tnL ⟨d, n⟩) rfl rfl HS5.out rfl rfl rfl ?_)
      intro w6 hs6 hk6
      have HTH : Hid (TH w vs root U kb qb db sb b9 ok 0 w6) := by
        have h1 := HT4.out.fresh HF5.out
        have h2 := HT4.out.kf.size
        refine ⟨d, n, _, _, _, due2, 1, qv4, _, _, HT5.out.box hk6.out h1 (by have := HF5.out; omega), hs6.out, by have := HF5.out; omega, h1.1, h1.2.1, h1.2.2.1, Dij.init vs root, HDU.out.1, HDU.out.2⟩
      clear hs6 hk6 HS5 HT5 HT4 HF5 HDU
      go_wp2_with fail
      go_loopw [9, 10, 11, 12, 13] (fun a9 a10 _ _ _ wr => ∃ (b9 : Nat) (ok : Bool) (k : Nat), a9 = .pointer (some ⟨b9, 0, none⟩) ∧ a10 = .bool ok ∧ TH w vs root U kb qb db sb b9 ok k wr) (fun _ _ _ _ _ wr => vs.length + 2 - kl wr kb)
      case atStart => exact ⟨b9, ok, 0, rfl, rfl, HTH.out⟩
      case round =>
        obtain ⟨c9, ok2, k, rfl, rfl, hth⟩ := hrel
        obtain ⟨wy, hwy⟩ : ∃ y, wr = y := ⟨_, rfl⟩
        rw [hwy] at hth ⊢
        have HTY : Hid (TH w vs root U kb qb db sb c9 ok2 k wy) := hth
        clear hth hwy HTH
        cases ok2
        case false =>
          obtain ⟨d, n, f, F, due, due2, KQ, qv, sv, sx, h1, h2, h3, h4, h5, h6, h7, h8, h9⟩ := HTY.out
          have HI : Hid (TI w vs root U kb qb db sb f k F due2 KQ qv sv sx wy) := h1
          have HDN : Hid ((∀ v d ls, f v = some (d, ls) → Told vs root v d ls) ∧ ∀ v p, isP vs root p v → f v ≠ none) := h7.done HOV.out (h9 rfl)
          clear h1 h2 h3 h4 h5 h6 h7 h8 h9
          go_wp2_with fail
          refine (slist_any w.heap.size sb sv sx (rts vs root) wy (by rw [rts_len]; have := HUV.out.2; omega) HI.out.rs).mono ?_
          rintro e wx ⟨v2, v3, rfl, -, hr3, hk3, ho3, -⟩
          have HE : Hid (TePost w vs root kb U (.returned v2) wx) := by
            have h1 := HI.out.set hk3 hr3 ho3
            exact ⟨v2, f, k, F, rfl, h1.kn, h1.kf, h1.fo, fun g hg => (h1.fl g hg).1, HDN.out.1, HDN.out.2⟩
          clear hr3 hk3 ho3
          go_wp2_with fail
          go_ret
          exact HE.out
        case true =>
          obtain ⟨d, n, f, F, due, due2, KQ, qv, sv, sx, h1, h2, h3, h4, h5, h6, h7, h8, -⟩ := HTY.out
          have HI : Hid (TI w vs root U kb qb db sb f k F due2 KQ qv sv sx wy) := h1
          have HC9 : Hid (SB TnK c9 (tnL ⟨d, n⟩) wy ∧ w.heap.size ≤ c9 ∧ ¬ fpQ qb db qv c9 ∧ ¬ fpT sb sv c9 ∧ ¬ F c9) := ⟨h2, h3, h4, h5, h6⟩
          have HDJ : Hid (Dij vs root f due k ∧ due n = some d ∧ (∀ m dm, due m = some dm → d ≤ dm) ∧ due2 = dropP due n) := ⟨h7, h8 rfl⟩
          have HKK : Hid (k ≤ 1 + vs.length ∧ kl wy kb = k) := ⟨h1.kn.many h7.many, h1.kn.kl⟩
          have HFN : Hid (f n = none) := (h7.b n d (h8 rfl).1).1
          have HNV : Hid (n ∈ rts vs root) := by
            rcases (h7.b n d (h8 rfl).1).2 with ⟨c, -⟩ | ⟨u, du, lu, e, -, c1, -, c2, -⟩
            · show n ∈ _; rw [c]; exact List.mem_cons_self
            · exact List.mem_cons_of_mem _ (List.mem_map.2 ⟨e, c1.1, c2⟩)
          clear h1 h2 h3 h4 h5 h6 h7 h8
          go_upto_region 10 with fail
          obtain ⟨wd, hwd⟩ : ∃ y, wy.drew = y := ⟨_, rfl⟩
          have HWD : Hid (wy.drew = wd) := hwd
          have HBD : Hid (Below wy.heap.size wy wd) := by rw [← hwd]; exact drew_bel wy
          have HID : Hid (TI w vs root U kb qb db sb f k F due2 KQ qv sv sx wd) := HI.out.nx HBD.out
          have HC9D : Hid (SB TnK c9 (tnL ⟨d, n⟩) wd) := HC9.out.1.blk (HBD.out.block c9 HC9.out.1.lt)
          have HTD : Hid (SB TrK tb (trL b root kb) wd) := (HNB.out wd HID.out.kf).2.2.1
          clear hwd HI HBD
          refine wp_via (fun b1 b2 q x => [(46, .pointer (some ⟨tb, 0, none⟩)), (47, .pointer (some ⟨c9, 1, none⟩)), (48, .int .i64 n), (49, .agg (rcL q).toArray), (50, .pointer (some ⟨tb, 0, none⟩)), (51, .pointer (some ⟨c9, 1, none⟩)), (52, .int .i64 n), (53, .agg (rcL x).toArray), (11, .pointer (some ⟨b1, 0, none⟩)), (12, .pointer (some ⟨b2, 0, none⟩))]) (fun b1 b2 q x W => Below wd.heap.size wd W ∧ SB RcK b1 (rcL q) W ∧ SB RcK b2 (rcL x) W ∧ b1 ≠ b2 ∧ wd.heap.size ≤ b1 ∧ wd.heap.size ≤ b2 ∧ q.n = n ∧ nowP f n = (q.d, q.ls) ∧ x.n = n ∧ Best vs root f n x.d x.ls ∧ RcOk (fun g => wd.heap.size ≤ g) W x ∧ (∀ g o q, x.a = some ⟨g, o, q⟩ → g ≠ b1 ∧ g ≠ b2) ∧ (∀ y ∈ x.ls, y ∈ U) ∧ x.ls.length ≤ U.length) ?_ ?_
          case' refine_2 =>
            refine wp_region_held_drew (S := fun W => Below wd.heap.size wd W) (by kernel_rfl) (by rw [HWD.out]; exact Below.refl _ _) (fun hHeld => ?_)
            rw [HWD.out] at hHeld ⊢
            have HBw : Hid (Below wd.heap.size wd wd) := hHeld
            refine wpAnyH_take (i := 0) (v := .pointer (some ⟨tb, 0, none⟩)) rfl (by kernel_rfl) (by kernel_rfl) (by kernel_rfl) (fun _ _ _ h => by obtain ⟨_, _, _, _, h, _⟩ := h; cases h) (Or.inl ⟨by rfl, ?_⟩) (by assumption) ?_
            case refine_1 => intro W hSw; go_simp; try rfl
            try simp only [Act.put, List.getElem_toArray, List.getElem_cons_zero, List.getElem_cons_succ, List.setIfInBounds_toArray, List.set_cons_zero, List.set_cons_succ]
            refine wpAnyH_take (i := 1) (v := .pointer (some ⟨c9, 1, none⟩)) rfl (by kernel_rfl) (by kernel_rfl) (by kernel_rfl) (fun _ _ _ h => by obtain ⟨_, _, _, _, h, _⟩ := h; cases h) (Or.inl ⟨by rfl, ?_⟩) (by assumption) ?_
            case refine_1 => intro W hSw; go_simp; try rfl
            try simp only [Act.put, List.getElem_toArray, List.getElem_cons_zero, List.getElem_cons_succ, List.setIfInBounds_toArray, List.set_cons_zero, List.set_cons_succ]
            refine wpAnyH_take (i := 2) (v := .int .i64 n) rfl (by kernel_rfl) (by kernel_rfl) (by kernel_rfl) (fun _ _ _ h => by obtain ⟨_, _, _, _, h, _⟩ := h; cases h) (Or.inl ⟨by rfl, ?_⟩) (by assumption) ?_
            case refine_1 => intro W hSw; have k1 : W.cell? ⟨c9, 1, none⟩ = some (.int .i64 n) := (HC9D.out.blk (hSw.block c9 HC9D.out.lt)).cell 1; go_simp; try rfl
            try simp only [Act.put, List.getElem_toArray, List.getElem_cons_zero, List.getElem_cons_succ, List.setIfInBounds_toArray, List.set_cons_zero, List.set_cons_succ]
            refine wpAnyH_take (i := 4) (v := .pointer (some ⟨tb, 0, none⟩)) rfl (by kernel_rfl) (by kernel_rfl) (by kernel_rfl) (fun _ _ _ h => by obtain ⟨_, _, _, _, h, _⟩ := h; cases h) (Or.inl ⟨by rfl, ?_⟩) (by assumption) ?_
            case refine_1 => intro W hSw; go_simp; try rfl
            try simp only [Act.put, List.getElem_toArray, List.getElem_cons_zero, List.getElem_cons_succ, List.setIfInBounds_toArray, List.set_cons_zero, List.set_cons_succ]
            refine wpAnyH_take (i := 5) (v := .pointer (some ⟨c9, 1, none⟩)) rfl (by kernel_rfl) (by kernel_rfl) (by kernel_rfl) (fun _ _ _ h => by obtain ⟨_, _, _, _, h, _⟩ := h; cases h) (Or.inl ⟨by rfl, ?_⟩) (by assumption) ?_
            case refine_1 => intro W hSw; go_simp; try rfl
            try simp only [Act.put, List.getElem_toArray, List.getElem_cons_zero, List.getElem_cons_succ, List.setIfInBounds_toArray, List.set_cons_zero, List.set_cons_succ]
            refine wpAnyH_take (i := 6) (v := .int .i64 n) rfl (by kernel_rfl) (by kernel_rfl) (by kernel_rfl) (fun _ _ _ h => by obtain ⟨_, _, _, _, h, _⟩ := h; cases h) (Or.inl ⟨by rfl, ?_⟩) (by assumption) ?_
            case refine_1 => intro W hSw; have k1 : W.cell? ⟨c9, 1, none⟩ = some (.int .i64 n) := (HC9D.out.blk (hSw.block c9 HC9D.out.lt)).cell 1; go_simp; try rfl
            try simp only [Act.put, List.getElem_toArray, List.getElem_cons_zero, List.getElem_cons_succ, List.setIfInBounds_toArray, List.set_cons_zero, List.set_cons_succ]
            have HBwwd : Hid (Below wd.heap.size wd wd) := HBw.out
            refine wpAnyH_ready (rs := [3, 8, 9]) (by kernel_rfl) (by simp) ?_
            refine AllReadyH.cons rfl (fun K hK => ?_) (AllReadyH.cons rfl (fun K hK => ?_) (AllReadyH.cons rfl (fun K hK => ?_) AllReadyH.nil))
            · go_simp
              refine (now_any b root tb kb f k F n wd (HTD.out.blk (HBwwd.out.block tb HTD.out.lt)) (HID.out.kn.bel HBwwd.out)).mono ?_
              rintro e v1 ⟨q, rfl, hqn, hqd, -, hb⟩
              have HQ : Hid (q.n = n ∧ nowP f n = (q.d, q.ls)) := ⟨hqn, hqd⟩
              have HBwv1 : Hid (Below wd.heap.size wd v1) := HBwwd.out.trans (hb.mono HBwwd.out.size)
              clear hqn hqd hb
              refine hK.out _ _ HBwv1.out (fun hHeld => ?_)
              clear hK K
              try simp only [Act.put, List.getElem_toArray, List.getElem_cons_zero, List.getElem_cons_succ, List.setIfInBounds_toArray, List.set_cons_zero, List.set_cons_succ]
              refine wpAnyH_ready (rs := [7, 8, 9]) (by kernel_rfl) (by simp) ?_
              refine AllReadyH.cons rfl (fun K hK => ?_) (AllReadyH.cons rfl (fun K hK => ?_) (AllReadyH.cons rfl (fun K hK => ?_) AllReadyH.nil))
              · go_simp
                refine (best_any B b vs root tb kb f k F U n v1 (Nat.le_trans HBW.out (Nat.le_trans HID.out.kf.size HBwv1.out.size)) (HTD.out.blk (HBwv1.out.block tb HTD.out.lt)) (HNB.out v1 (HID.out.nx HBwv1.out).kf).2.1 (HID.out.kn.bel HBwv1.out) HID.out.fo HUV.out.1 (by have := HUV.out.2; omega) HOK.out (fun g hg => ((HID.out.nx HBwv1.out).fl g hg).2.1)).mono ?_
                rintro e v2 ⟨x, rfl, hxn, hxb, hxo, hb, hxu, hxl⟩
                have HXF : Hid (x.n = n ∧ Best vs root f n x.d x.ls ∧ (∀ y ∈ x.ls, y ∈ U) ∧ x.ls.length ≤ U.length) := ⟨hxn, hxb, hxu, hxl⟩
                have HBwv2 : Hid (Below wd.heap.size wd v2) := HBwv1.out.trans (hb.mono HBwv1.out.size)
                have HXv2 : Hid (RcOk (fun g => wd.heap.size ≤ g) v2 x) := hxo.mono (fun g hg => Nat.le_trans HBwv1.out.size hg)
                clear hxn hxb hxo hb hxu hxl
                refine hK.out _ _ HBwv2.out (fun hHeld => ?_)
                clear hK K
                try simp only [Act.put, List.getElem_toArray, List.getElem_cons_zero, List.getElem_cons_succ, List.setIfInBounds_toArray, List.set_cons_zero, List.set_cons_succ]
                refine wpAnyH_ready (rs := [8, 9]) (by kernel_rfl) (by simp) ?_
                refine AllReadyH.cons rfl (fun K hK => ?_) (AllReadyH.cons rfl (fun K hK => ?_) AllReadyH.nil)
                · refine snew_step RcK _ z_rc rfl rfl (fun b1 v3 hb1 hb2 hb => ?_)
                  have HBwv3 : Hid (Below wd.heap.size wd v3) := HBwv2.out.trans (hb.out.mono HBwv2.out.size)
                  have HXv3 : Hid (RcOk (fun g => wd.heap.size ≤ g) v3 x) := HXv2.out.bel hb.out
                  have HS8v3 : Hid (SB RcK b1 (rcL zr) v3 ∧ wd.heap.size ≤ b1) := ⟨hb2.out, by rw [← hb1.out]; exact HBwv2.out.size⟩
                  have HN8 : Hid (∀ g o q, x.a = some ⟨g, o, q⟩ → g ≠ b1) := fun g o q e => by have h1 := (HXv2.out.f g o q e).2; have h2 := hb1.out; omega
                  clear hb1 hb2 hb
                  refine hK.out _ _ HBwv3.out (fun hHeld => ?_)
                  clear hK K
                  try simp only [Act.put, List.getElem_toArray, List.getElem_cons_zero, List.getElem_cons_succ, List.setIfInBounds_toArray, List.set_cons_zero, List.set_cons_succ]
                  refine wpAnyH_ready (rs := [9]) (by kernel_rfl) (by simp) ?_
                  refine AllReadyH.cons rfl (fun K hK => ?_) AllReadyH.nil
                  refine snew_step RcK _ z_rc rfl rfl (fun b2 v4 hb1 hb2 hb => ?_)
                  have HBwv4 : Hid (Below wd.heap.size wd v4) := HBwv3.out.trans (hb.out.mono HBwv3.out.size)
                  have HS8v4 : Hid (SB RcK b1 (rcL zr) v4 ∧ wd.heap.size ≤ b1) := ⟨HS8v3.out.1.blk (hb.out.block b1 HS8v3.out.1.lt), HS8v3.out.2⟩
                  have HXv4 : Hid (RcOk (fun g => wd.heap.size ≤ g) v4 x) := HXv3.out.bel hb.out
                  have HS9v4 : Hid (SB RcK b2 (rcL zr) v4 ∧ wd.heap.size ≤ b2) := ⟨hb2.out, by rw [← hb1.out]; exact HBwv3.out.size⟩
                  have H12 : Hid (b1 ≠ b2) := by have h1 := HS8v3.out.1.lt; have h2 := hb1.out; show _ ≠ _; omega
                  have HN9 : Hid (∀ g o q, x.a = some ⟨g, o, q⟩ → g ≠ b2) := fun g o q e => by have h1 := (HXv3.out.f g o q e).2; have h2 := hb1.out; omega
                  clear hb1 hb2 hb
                  refine hK.out _ _ HBwv4.out (fun hHeld => ?_)
                  clear hK K
                  try simp only [Act.put, List.getElem_toArray, List.getElem_cons_zero, List.getElem_cons_succ, List.setIfInBounds_toArray, List.set_cons_zero, List.set_cons_succ]
                  refine wpAnyH_ready (rs := [10]) (by kernel_rfl) (by simp) ?_
                  refine AllReadyH.cons rfl (fun K hK => ?_) AllReadyH.nil
                  refine sstore_step RcK (.tmp 11) (.tmp 49) rfl (b := b1) (cs := rcL zr) (cs' := rcL q) rfl rfl HS8v4.out.1 rfl rfl rfl rfl (fun y1 hy1 hz1 => ?_)
                  have HY1 : Hid (Below wd.heap.size wd y1) := HBwv4.out.trans (hz1.out.below HS8v4.out.2)
                  refine hK.out _ _ HY1.out (fun hHeld => ?_)
                  clear hK K
                  try simp only [Act.put, List.getElem_toArray, List.getElem_cons_zero, List.getElem_cons_succ, List.setIfInBounds_toArray, List.set_cons_zero, List.set_cons_succ]
                  refine wpAnyH_ready (rs := [11]) (by kernel_rfl) (by simp) ?_
                  refine AllReadyH.cons rfl (fun K hK => ?_) AllReadyH.nil
                  refine sstore_step RcK (.tmp 12) (.tmp 53) rfl (b := b2) (cs := rcL zr) (cs' := rcL x) rfl rfl (HS9v4.out.1.blk (hz1.out.block b2 (Ne.symm H12.out))) rfl rfl rfl rfl (fun y2 hy2 hz2 => ?_)
                  have HY2 : Hid (Below wd.heap.size wd y2) := HY1.out.trans (hz2.out.below HS9v4.out.2)
                  refine hK.out _ _ HY2.out (fun hHeld => ?_)
                  clear hK K
                  try simp only [Act.put, List.getElem_toArray, List.getElem_cons_zero, List.getElem_cons_succ, List.setIfInBounds_toArray, List.set_cons_zero, List.set_cons_succ]
                  refine wpAnyH_done (by kernel_rfl) ?_ _
                  refine ⟨b1, b2, q, x, rfl, ?_, HY2.out, hy1.out.blk (hz2.out.block b1 H12.out), hy2.out, H12.out, HS8v4.out.2, HS9v4.out.2, HQ.out.1, HQ.out.2, HXF.out.1, HXF.out.2.1, rc_keep (rc_keep HXv4.out hz1.out (fun g o q e => HN8.out g o q e)) hz2.out (fun g o q e => HN9.out g o q e), fun g o q e => ⟨HN8.out g o q e, HN9.out g o q e⟩, HXF.out.2.2.1, HXF.out.2.2.2⟩
                  simp only [List.foldl_cons, List.foldl_nil, Act.put, List.getElem_toArray, List.getElem_cons_zero, List.getElem_cons_succ, List.setIfInBounds_toArray, List.set_cons_zero, List.set_cons_succ]
                · refine snew_step RcK _ z_rc rfl rfl (fun b2 v5 hb1 hb2 hb => ?_)
                  have HBwv5 : Hid (Below wd.heap.size wd v5) := HBwv2.out.trans (hb.out.mono HBwv2.out.size)
                  have HXv5 : Hid (RcOk (fun g => wd.heap.size ≤ g) v5 x) := HXv2.out.bel hb.out
                  have HS9v5 : Hid (SB RcK b2 (rcL zr) v5 ∧ wd.heap.size ≤ b2) := ⟨hb2.out, by rw [← hb1.out]; exact HBwv2.out.size⟩
                  have HN9 : Hid (∀ g o q, x.a = some ⟨g, o, q⟩ → g ≠ b2) := fun g o q e => by have h1 := (HXv2.out.f g o q e).2; have h2 := hb1.out; omega
                  clear hb1 hb2 hb
                  refine hK.out _ _ HBwv5.out (fun hHeld => ?_)
                  clear hK K
                  try simp only [Act.put, List.getElem_toArray, List.getElem_cons_zero, List.getElem_cons_succ, List.setIfInBounds_toArray, List.set_cons_zero, List.set_cons_succ]
                  refine wpAnyH_ready (rs := [8]) (by kernel_rfl) (by simp) ?_
                  refine AllReadyH.cons rfl (fun K hK => ?_) AllReadyH.nil
                  refine snew_step RcK _ z_rc rfl rfl (fun b1 v6 hb1 hb2 hb => ?_)
                  have HBwv6 : Hid (Below wd.heap.size wd v6) := HBwv5.out.trans (hb.out.mono HBwv5.out.size)
                  have HS9v6 : Hid (SB RcK b2 (rcL zr) v6 ∧ wd.heap.size ≤ b2) := ⟨HS9v5.out.1.blk (hb.out.block b2 HS9v5.out.1.lt), HS9v5.out.2⟩
                  have HXv6 : Hid (RcOk (fun g => wd.heap.size ≤ g) v6 x) := HXv5.out.bel hb.out
                  have HS8v6 : Hid (SB RcK b1 (rcL zr) v6 ∧ wd.heap.size ≤ b1) := ⟨hb2.out, by rw [← hb1.out]; exact HBwv5.out.size⟩
                  have H12 : Hid (b1 ≠ b2) := by have h1 := HS9v5.out.1.lt; have h2 := hb1.out; show _ ≠ _; omega
                  have HN8 : Hid (∀ g o q, x.a = some ⟨g, o, q⟩ → g ≠ b1) := fun g o q e => by have h1 := (HXv5.out.f g o q e).2; have h2 := hb1.out; omega
                  clear hb1 hb2 hb
                  refine hK.out _ _ HBwv6.out (fun hHeld => ?_)
                  clear hK K
                  try simp only [Act.put, List.getElem_toArray, List.getElem_cons_zero, List.getElem_cons_succ, List.setIfInBounds_toArray, List.set_cons_zero, List.set_cons_succ]
                  refine wpAnyH_ready (rs := [10]) (by kernel_rfl) (by simp) ?_
                  refine AllReadyH.cons rfl (fun K hK => ?_) AllReadyH.nil
                  refine sstore_step RcK (.tmp 11) (.tmp 49) rfl (b := b1) (cs := rcL zr) (cs' := rcL q) rfl rfl HS8v6.out.1 rfl rfl rfl rfl (fun y1 hy1 hz1 => ?_)
                  have HY1 : Hid (Below wd.heap.size wd y1) := HBwv6.out.trans (hz1.out.below HS8v6.out.2)
                  refine hK.out _ _ HY1.out (fun hHeld => ?_)
                  clear hK K
                  try simp only [Act.put, List.getElem_toArray, List.getElem_cons_zero, List.getElem_cons_succ, List.setIfInBounds_toArray, List.set_cons_zero, List.set_cons_succ]
                  refine wpAnyH_ready (rs := [11]) (by kernel_rfl) (by simp) ?_
                  refine AllReadyH.cons rfl (fun K hK => ?_) AllReadyH.nil
                  refine sstore_step RcK (.tmp 12) (.tmp 53) rfl (b := b2) (cs := rcL zr) (cs' := rcL x) rfl rfl (HS9v6.out.1.blk (hz1.out.block b2 (Ne.symm H12.out))) rfl rfl rfl rfl (fun y2 hy2 hz2 => ?_)
                  have HY2 : Hid (Below wd.heap.size wd y2) := HY1.out.trans (hz2.out.below HS9v6.out.2)
                  refine hK.out _ _ HY2.out (fun hHeld => ?_)
                  clear hK K
                  try simp only [Act.put, List.getElem_toArray, List.getElem_cons_zero, List.getElem_cons_succ, List.setIfInBounds_toArray, List.set_cons_zero, List.set_cons_succ]
                  refine wpAnyH_done (by kernel_rfl) ?_ _
                  refine ⟨b1, b2, q, x, rfl, ?_, HY2.out, hy1.out.blk (hz2.out.block b1 H12.out), hy2.out, H12.out, HS8v6.out.2, HS9v6.out.2, HQ.out.1, HQ.out.2, HXF.out.1, HXF.out.2.1, rc_keep (rc_keep HXv6.out hz1.out (fun g o q e => HN8.out g o q e)) hz2.out (fun g o q e => HN9.out g o q e), fun g o q e => ⟨HN8.out g o q e, HN9.out g o q e⟩, HXF.out.2.2.1, HXF.out.2.2.2⟩
                  simp only [List.foldl_cons, List.foldl_nil, Act.put, List.getElem_toArray, List.getElem_cons_zero, List.getElem_cons_succ, List.setIfInBounds_toArray, List.set_cons_zero, List.set_cons_succ]
              · refine snew_step RcK _ z_rc rfl rfl (fun b1 v7 hb1 hb2 hb => ?_)
                have HBwv7 : Hid (Below wd.heap.size wd v7) := HBwv1.out.trans (hb.out.mono HBwv1.out.size)
                have HS8v7 : Hid (SB RcK b1 (rcL zr) v7 ∧ wd.heap.size ≤ b1) := ⟨hb2.out, by rw [← hb1.out]; exact HBwv1.out.size⟩
                clear hb1 hb2 hb
                refine hK.out _ _ HBwv7.out (fun hHeld => ?_)
                clear hK K
                try simp only [Act.put, List.getElem_toArray, List.getElem_cons_zero, List.getElem_cons_succ, List.setIfInBounds_toArray, List.set_cons_zero, List.set_cons_succ]
                refine wpAnyH_ready (rs := [7, 9]) (by kernel_rfl) (by simp) ?_
                refine AllReadyH.cons rfl (fun K hK => ?_) (AllReadyH.cons rfl (fun K hK => ?_) AllReadyH.nil)
                · go_simp
                  refine (best_any B b vs root tb kb f k F U n v7 (Nat.le_trans HBW.out (Nat.le_trans HID.out.kf.size HBwv7.out.size)) (HTD.out.blk (HBwv7.out.block tb HTD.out.lt)) (HNB.out v7 (HID.out.nx HBwv7.out).kf).2.1 (HID.out.kn.bel HBwv7.out) HID.out.fo HUV.out.1 (by have := HUV.out.2; omega) HOK.out (fun g hg => ((HID.out.nx HBwv7.out).fl g hg).2.1)).mono ?_
                  rintro e v8 ⟨x, rfl, hxn, hxb, hxo, hb, hxu, hxl⟩
                  have HXF : Hid (x.n = n ∧ Best vs root f n x.d x.ls ∧ (∀ y ∈ x.ls, y ∈ U) ∧ x.ls.length ≤ U.length) := ⟨hxn, hxb, hxu, hxl⟩
                  have HBwv8 : Hid (Below wd.heap.size wd v8) := HBwv7.out.trans (hb.mono HBwv7.out.size)
                  have HS8v8 : Hid (SB RcK b1 (rcL zr) v8 ∧ wd.heap.size ≤ b1) := ⟨HS8v7.out.1.blk (hb.block b1 HS8v7.out.1.lt), HS8v7.out.2⟩
                  have HXv8 : Hid (RcOk (fun g => wd.heap.size ≤ g) v8 x) := hxo.mono (fun g hg => Nat.le_trans HBwv7.out.size hg)
                  have HN8 : Hid (∀ g o q, x.a = some ⟨g, o, q⟩ → g ≠ b1) := fun g o q e => by have h1 := (hxo.f g o q e).1; have h2 := HS8v7.out.1.lt; omega
                  clear hxn hxb hxo hb hxu hxl
                  refine hK.out _ _ HBwv8.out (fun hHeld => ?_)
                  clear hK K
                  try simp only [Act.put, List.getElem_toArray, List.getElem_cons_zero, List.getElem_cons_succ, List.setIfInBounds_toArray, List.set_cons_zero, List.set_cons_succ]
                  refine wpAnyH_ready (rs := [9]) (by kernel_rfl) (by simp) ?_
                  refine AllReadyH.cons rfl (fun K hK => ?_) AllReadyH.nil
                  refine snew_step RcK _ z_rc rfl rfl (fun b2 v9 hb1 hb2 hb => ?_)
                  have HBwv9 : Hid (Below wd.heap.size wd v9) := HBwv8.out.trans (hb.out.mono HBwv8.out.size)
                  have HS8v9 : Hid (SB RcK b1 (rcL zr) v9 ∧ wd.heap.size ≤ b1) := ⟨HS8v8.out.1.blk (hb.out.block b1 HS8v8.out.1.lt), HS8v8.out.2⟩
                  have HXv9 : Hid (RcOk (fun g => wd.heap.size ≤ g) v9 x) := HXv8.out.bel hb.out
                  have HS9v9 : Hid (SB RcK b2 (rcL zr) v9 ∧ wd.heap.size ≤ b2) := ⟨hb2.out, by rw [← hb1.out]; exact HBwv8.out.size⟩
                  have H12 : Hid (b1 ≠ b2) := by have h1 := HS8v8.out.1.lt; have h2 := hb1.out; show _ ≠ _; omega
                  have HN9 : Hid (∀ g o q, x.a = some ⟨g, o, q⟩ → g ≠ b2) := fun g o q e => by have h1 := (HXv8.out.f g o q e).2; have h2 := hb1.out; omega
                  clear hb1 hb2 hb
                  refine hK.out _ _ HBwv9.out (fun hHeld => ?_)
                  clear hK K
                  try simp only [Act.put, List.getElem_toArray, List.getElem_cons_zero, List.getElem_cons_succ, List.setIfInBounds_toArray, List.set_cons_zero, List.set_cons_succ]
                  refine wpAnyH_ready (rs := [10]) (by kernel_rfl) (by simp) ?_
                  refine AllReadyH.cons rfl (fun K hK => ?_) AllReadyH.nil
                  refine sstore_step RcK (.tmp 11) (.tmp 49) rfl (b := b1) (cs := rcL zr) (cs' := rcL q) rfl rfl HS8v9.out.1 rfl rfl rfl rfl (fun y1 hy1 hz1 => ?_)
                  have HY1 : Hid (Below wd.heap.size wd y1) := HBwv9.out.trans (hz1.out.below HS8v9.out.2)
                  refine hK.out _ _ HY1.out (fun hHeld => ?_)
                  clear hK K
                  try simp only [Act.put, List.getElem_toArray, List.getElem_cons_zero, List.getElem_cons_succ, List.setIfInBounds_toArray, List.set_cons_zero, List.set_cons_succ]
                  refine wpAnyH_ready (rs := [11]) (by kernel_rfl) (by simp) ?_
                  refine AllReadyH.cons rfl (fun K hK => ?_) AllReadyH.nil
                  refine sstore_step RcK (.tmp 12) (.tmp 53) rfl (b := b2) (cs := rcL zr) (cs' := rcL x) rfl rfl (HS9v9.out.1.blk (hz1.out.block b2 (Ne.symm H12.out))) rfl rfl rfl rfl (fun y2 hy2 hz2 => ?_)
                  have HY2 : Hid (Below wd.heap.size wd y2) := HY1.out.trans (hz2.out.below HS9v9.out.2)
                  refine hK.out _ _ HY2.out (fun hHeld => ?_)
                  clear hK K
                  try simp only [Act.put, List.getElem_toArray, List.getElem_cons_zero, List.getElem_cons_succ, List.setIfInBounds_toArray, List.set_cons_zero, List.set_cons_succ]
                  refine wpAnyH_done (by kernel_rfl) ?_ _
                  refine ⟨b1, b2, q, x, rfl, ?_, HY2.out, hy1.out.blk (hz2.out.block b1 H12.out), hy2.out, H12.out, HS8v9.out.2, HS9v9.out.2, HQ.out.1, HQ.out.2, HXF.out.1, HXF.out.2.1, rc_keep (rc_keep HXv9.out hz1.out (fun g o q e => HN8.out g o q e)) hz2.out (fun g o q e => HN9.out g o q e), fun g o q e => ⟨HN8.out g o q e, HN9.out g o q e⟩, HXF.out.2.2.1, HXF.out.2.2.2⟩
                  simp only [List.foldl_cons, List.foldl_nil, Act.put, List.getElem_toArray, List.getElem_cons_zero, List.getElem_cons_succ, List.setIfInBounds_toArray, List.set_cons_zero, List.set_cons_succ]
                · refine snew_step RcK _ z_rc rfl rfl (fun b2 v10 hb1 hb2 hb => ?_)
                  have HBwv10 : Hid (Below wd.heap.size wd v10) := HBwv7.out.trans (hb.out.mono HBwv7.out.size)
                  have HS8v10 : Hid (SB RcK b1 (rcL zr) v10 ∧ wd.heap.size ≤ b1) := ⟨HS8v7.out.1.blk (hb.out.block b1 HS8v7.out.1.lt), HS8v7.out.2⟩
                  have HS9v10 : Hid (SB RcK b2 (rcL zr) v10 ∧ wd.heap.size ≤ b2) := ⟨hb2.out, by rw [← hb1.out]; exact HBwv7.out.size⟩
                  have H12 : Hid (b1 ≠ b2) := by have h1 := HS8v7.out.1.lt; have h2 := hb1.out; show _ ≠ _; omega
                  clear hb1 hb2 hb
                  refine hK.out _ _ HBwv10.out (fun hHeld => ?_)
                  clear hK K
                  try simp only [Act.put, List.getElem_toArray, List.getElem_cons_zero, List.getElem_cons_succ, List.setIfInBounds_toArray, List.set_cons_zero, List.set_cons_succ]
                  refine wpAnyH_ready (rs := [7]) (by kernel_rfl) (by simp) ?_
                  refine AllReadyH.cons rfl (fun K hK => ?_) AllReadyH.nil
                  go_simp
                  refine (best_any B b vs root tb kb f k F U n v10 (Nat.le_trans HBW.out (Nat.le_trans HID.out.kf.size HBwv10.out.size)) (HTD.out.blk (HBwv10.out.block tb HTD.out.lt)) (HNB.out v10 (HID.out.nx HBwv10.out).kf).2.1 (HID.out.kn.bel HBwv10.out) HID.out.fo HUV.out.1 (by have := HUV.out.2; omega) HOK.out (fun g hg => ((HID.out.nx HBwv10.out).fl g hg).2.1)).mono ?_
                  rintro e v11 ⟨x, rfl, hxn, hxb, hxo, hb, hxu, hxl⟩
                  have HXF : Hid (x.n = n ∧ Best vs root f n x.d x.ls ∧ (∀ y ∈ x.ls, y ∈ U) ∧ x.ls.length ≤ U.length) := ⟨hxn, hxb, hxu, hxl⟩
                  have HBwv11 : Hid (Below wd.heap.size wd v11) := HBwv10.out.trans (hb.mono HBwv10.out.size)
                  have HS8v11 : Hid (SB RcK b1 (rcL zr) v11 ∧ wd.heap.size ≤ b1) := ⟨HS8v10.out.1.blk (hb.block b1 HS8v10.out.1.lt), HS8v10.out.2⟩
                  have HS9v11 : Hid (SB RcK b2 (rcL zr) v11 ∧ wd.heap.size ≤ b2) := ⟨HS9v10.out.1.blk (hb.block b2 HS9v10.out.1.lt), HS9v10.out.2⟩
                  have HXv11 : Hid (RcOk (fun g => wd.heap.size ≤ g) v11 x) := hxo.mono (fun g hg => Nat.le_trans HBwv10.out.size hg)
                  have HN8 : Hid (∀ g o q, x.a = some ⟨g, o, q⟩ → g ≠ b1) := fun g o q e => by have h1 := (hxo.f g o q e).1; have h2 := HS8v10.out.1.lt; omega
                  have HN9 : Hid (∀ g o q, x.a = some ⟨g, o, q⟩ → g ≠ b2) := fun g o q e => by have h1 := (hxo.f g o q e).1; have h2 := HS9v10.out.1.lt; omega
                  clear hxn hxb hxo hb hxu hxl
                  refine hK.out _ _ HBwv11.out (fun hHeld => ?_)
                  clear hK K
                  try simp only [Act.put, List.getElem_toArray, List.getElem_cons_zero, List.getElem_cons_succ, List.setIfInBounds_toArray, List.set_cons_zero, List.set_cons_succ]
                  refine wpAnyH_ready (rs := [10]) (by kernel_rfl) (by simp) ?_
                  refine AllReadyH.cons rfl (fun K hK => ?_) AllReadyH.nil
                  refine sstore_step RcK (.tmp 11) (.tmp 49) rfl (b := b1) (cs := rcL zr) (cs' := rcL q) rfl rfl HS8v11.out.1 rfl rfl rfl rfl (fun y1 hy1 hz1 => ?_)
                  have HY1 : Hid (Below wd.heap.size wd y1) := HBwv11.out.trans (hz1.out.below HS8v11.out.2)
                  refine hK.out _ _ HY1.out (fun hHeld => ?_)
                  clear hK K
                  try simp only [Act.put, List.getElem_toArray, List.getElem_cons_zero, List.getElem_cons_succ, List.setIfInBounds_toArray, List.set_cons_zero, List.set_cons_succ]
                  refine wpAnyH_ready (rs := [11]) (by kernel_rfl) (by simp) ?_
                  refine AllReadyH.cons rfl (fun K hK => ?_) AllReadyH.nil
                  refine sstore_step RcK (.tmp 12) (.tmp 53) rfl (b := b2) (cs := rcL zr) (cs' := rcL x) rfl rfl (HS9v11.out.1.blk (hz1.out.block b2 (Ne.symm H12.out))) rfl rfl rfl rfl (fun y2 hy2 hz2 => ?_)
                  have HY2 : Hid (Below wd.heap.size wd y2) := HY1.out.trans (hz2.out.below HS9v11.out.2)
                  refine hK.out _ _ HY2.out (fun hHeld => ?_)
                  clear hK K
                  try simp only [Act.put, List.getElem_toArray, List.getElem_cons_zero, List.getElem_cons_succ, List.setIfInBounds_toArray, List.set_cons_zero, List.set_cons_succ]
                  refine wpAnyH_done (by kernel_rfl) ?_ _
                  refine ⟨b1, b2, q, x, rfl, ?_, HY2.out, hy1.out.blk (hz2.out.block b1 H12.out), hy2.out, H12.out, HS8v11.out.2, HS9v11.out.2, HQ.out.1, HQ.out.2, HXF.out.1, HXF.out.2.1, rc_keep (rc_keep HXv11.out hz1.out (fun g o q e => HN8.out g o q e)) hz2.out (fun g o q e => HN9.out g o q e), fun g o q e => ⟨HN8.out g o q e, HN9.out g o q e⟩, HXF.out.2.2.1, HXF.out.2.2.2⟩
                  simp only [List.foldl_cons, List.foldl_nil, Act.put, List.getElem_toArray, List.getElem_cons_zero, List.getElem_cons_succ, List.setIfInBounds_toArray, List.set_cons_zero, List.set_cons_succ]
              · refine snew_step RcK _ z_rc rfl rfl (fun b2 v12 hb1 hb2 hb => ?_)
                have HBwv12 : Hid (Below wd.heap.size wd v12) := HBwv1.out.trans (hb.out.mono HBwv1.out.size)
                have HS9v12 : Hid (SB RcK b2 (rcL zr) v12 ∧ wd.heap.size ≤ b2) := ⟨hb2.out, by rw [← hb1.out]; exact HBwv1.out.size⟩
                clear hb1 hb2 hb
                refine hK.out _ _ HBwv12.out (fun hHeld => ?_)
                clear hK K
                try simp only [Act.put, List.getElem_toArray, List.getElem_cons_zero, List.getElem_cons_succ, List.setIfInBounds_toArray, List.set_cons_zero, List.set_cons_succ]
                refine wpAnyH_ready (rs := [7, 8]) (by kernel_rfl) (by simp) ?_
                refine AllReadyH.cons rfl (fun K hK => ?_) (AllReadyH.cons rfl (fun K hK => ?_) AllReadyH.nil)
                · go_simp
                  refine (best_any B b vs root tb kb f k F U n v12 (Nat.le_trans HBW.out (Nat.le_trans HID.out.kf.size HBwv12.out.size)) (HTD.out.blk (HBwv12.out.block tb HTD.out.lt)) (HNB.out v12 (HID.out.nx HBwv12.out).kf).2.1 (HID.out.kn.bel HBwv12.out) HID.out.fo HUV.out.1 (by have := HUV.out.2; omega) HOK.out (fun g hg => ((HID.out.nx HBwv12.out).fl g hg).2.1)).mono ?_
                  rintro e v13 ⟨x, rfl, hxn, hxb, hxo, hb, hxu, hxl⟩
                  have HXF : Hid (x.n = n ∧ Best vs root f n x.d x.ls ∧ (∀ y ∈ x.ls, y ∈ U) ∧ x.ls.length ≤ U.length) := ⟨hxn, hxb, hxu, hxl⟩
                  have HBwv13 : Hid (Below wd.heap.size wd v13) := HBwv12.out.trans (hb.mono HBwv12.out.size)
                  have HS9v13 : Hid (SB RcK b2 (rcL zr) v13 ∧ wd.heap.size ≤ b2) := ⟨HS9v12.out.1.blk (hb.block b2 HS9v12.out.1.lt), HS9v12.out.2⟩
                  have HXv13 : Hid (RcOk (fun g => wd.heap.size ≤ g) v13 x) := hxo.mono (fun g hg => Nat.le_trans HBwv12.out.size hg)
                  have HN9 : Hid (∀ g o q, x.a = some ⟨g, o, q⟩ → g ≠ b2) := fun g o q e => by have h1 := (hxo.f g o q e).1; have h2 := HS9v12.out.1.lt; omega
                  clear hxn hxb hxo hb hxu hxl
                  refine hK.out _ _ HBwv13.out (fun hHeld => ?_)
                  clear hK K
                  try simp only [Act.put, List.getElem_toArray, List.getElem_cons_zero, List.getElem_cons_succ, List.setIfInBounds_toArray, List.set_cons_zero, List.set_cons_succ]
                  refine wpAnyH_ready (rs := [8]) (by kernel_rfl) (by simp) ?_
                  refine AllReadyH.cons rfl (fun K hK => ?_) AllReadyH.nil
                  refine snew_step RcK _ z_rc rfl rfl (fun b1 v14 hb1 hb2 hb => ?_)
                  have HBwv14 : Hid (Below wd.heap.size wd v14) := HBwv13.out.trans (hb.out.mono HBwv13.out.size)
                  have HS9v14 : Hid (SB RcK b2 (rcL zr) v14 ∧ wd.heap.size ≤ b2) := ⟨HS9v13.out.1.blk (hb.out.block b2 HS9v13.out.1.lt), HS9v13.out.2⟩
                  have HXv14 : Hid (RcOk (fun g => wd.heap.size ≤ g) v14 x) := HXv13.out.bel hb.out
                  have HS8v14 : Hid (SB RcK b1 (rcL zr) v14 ∧ wd.heap.size ≤ b1) := ⟨hb2.out, by rw [← hb1.out]; exact HBwv13.out.size⟩
                  have H12 : Hid (b1 ≠ b2) := by have h1 := HS9v13.out.1.lt; have h2 := hb1.out; show _ ≠ _; omega
                  have HN8 : Hid (∀ g o q, x.a = some ⟨g, o, q⟩ → g ≠ b1) := fun g o q e => by have h1 := (HXv13.out.f g o q e).2; have h2 := hb1.out; omega
                  clear hb1 hb2 hb
                  refine hK.out _ _ HBwv14.out (fun hHeld => ?_)
                  clear hK K
                  try simp only [Act.put, List.getElem_toArray, List.getElem_cons_zero, List.getElem_cons_succ, List.setIfInBounds_toArray, List.set_cons_zero, List.set_cons_succ]
                  refine wpAnyH_ready (rs := [10]) (by kernel_rfl) (by simp) ?_
                  refine AllReadyH.cons rfl (fun K hK => ?_) AllReadyH.nil
                  refine sstore_step RcK (.tmp 11) (.tmp 49) rfl (b := b1) (cs := rcL zr) (cs' := rcL q) rfl rfl HS8v14.out.1 rfl rfl rfl rfl (fun y1 hy1 hz1 => ?_)
                  have HY1 : Hid (Below wd.heap.size wd y1) := HBwv14.out.trans (hz1.out.below HS8v14.out.2)
                  refine hK.out _ _ HY1.out (fun hHeld => ?_)
                  clear hK K
                  try simp only [Act.put, List.getElem_toArray, List.getElem_cons_zero, List.getElem_cons_succ, List.setIfInBounds_toArray, List.set_cons_zero, List.set_cons_succ]
                  refine wpAnyH_ready (rs := [11]) (by kernel_rfl) (by simp) ?_
                  refine AllReadyH.cons rfl (fun K hK => ?_) AllReadyH.nil
                  refine sstore_step RcK (.tmp 12) (.tmp 53) rfl (b := b2) (cs := rcL zr) (cs' := rcL x) rfl rfl (HS9v14.out.1.blk (hz1.out.block b2 (Ne.symm H12.out))) rfl rfl rfl rfl (fun y2 hy2 hz2 => ?_)
                  have HY2 : Hid (Below wd.heap.size wd y2) := HY1.out.trans (hz2.out.below HS9v14.out.2)
                  refine hK.out _ _ HY2.out (fun hHeld => ?_)
                  clear hK K
                  try simp only [Act.put, List.getElem_toArray, List.getElem_cons_zero, List.getElem_cons_succ, List.setIfInBounds_toArray, List.set_cons_zero, List.set_cons_succ]
                  refine wpAnyH_done (by kernel_rfl) ?_ _
                  refine ⟨b1, b2, q, x, rfl, ?_, HY2.out, hy1.out.blk (hz2.out.block b1 H12.out), hy2.out, H12.out, HS8v14.out.2, HS9v14.out.2, HQ.out.1, HQ.out.2, HXF.out.1, HXF.out.2.1, rc_keep (rc_keep HXv14.out hz1.out (fun g o q e => HN8.out g o q e)) hz2.out (fun g o q e => HN9.out g o q e), fun g o q e => ⟨HN8.out g o q e, HN9.out g o q e⟩, HXF.out.2.2.1, HXF.out.2.2.2⟩
                  simp only [List.foldl_cons, List.foldl_nil, Act.put, List.getElem_toArray, List.getElem_cons_zero, List.getElem_cons_succ, List.setIfInBounds_toArray, List.set_cons_zero, List.set_cons_succ]
                · refine snew_step RcK _ z_rc rfl rfl (fun b1 v15 hb1 hb2 hb => ?_)
                  have HBwv15 : Hid (Below wd.heap.size wd v15) := HBwv12.out.trans (hb.out.mono HBwv12.out.size)
                  have HS9v15 : Hid (SB RcK b2 (rcL zr) v15 ∧ wd.heap.size ≤ b2) := ⟨HS9v12.out.1.blk (hb.out.block b2 HS9v12.out.1.lt), HS9v12.out.2⟩
                  have HS8v15 : Hid (SB RcK b1 (rcL zr) v15 ∧ wd.heap.size ≤ b1) := ⟨hb2.out, by rw [← hb1.out]; exact HBwv12.out.size⟩
                  have H12 : Hid (b1 ≠ b2) := by have h1 := HS9v12.out.1.lt; have h2 := hb1.out; show _ ≠ _; omega
                  clear hb1 hb2 hb
                  refine hK.out _ _ HBwv15.out (fun hHeld => ?_)
                  clear hK K
                  try simp only [Act.put, List.getElem_toArray, List.getElem_cons_zero, List.getElem_cons_succ, List.setIfInBounds_toArray, List.set_cons_zero, List.set_cons_succ]
                  refine wpAnyH_ready (rs := [7]) (by kernel_rfl) (by simp) ?_
                  refine AllReadyH.cons rfl (fun K hK => ?_) AllReadyH.nil
                  go_simp
                  refine (best_any B b vs root tb kb f k F U n v15 (Nat.le_trans HBW.out (Nat.le_trans HID.out.kf.size HBwv15.out.size)) (HTD.out.blk (HBwv15.out.block tb HTD.out.lt)) (HNB.out v15 (HID.out.nx HBwv15.out).kf).2.1 (HID.out.kn.bel HBwv15.out) HID.out.fo HUV.out.1 (by have := HUV.out.2; omega) HOK.out (fun g hg => ((HID.out.nx HBwv15.out).fl g hg).2.1)).mono ?_
                  rintro e v16 ⟨x, rfl, hxn, hxb, hxo, hb, hxu, hxl⟩
                  have HXF : Hid (x.n = n ∧ Best vs root f n x.d x.ls ∧ (∀ y ∈ x.ls, y ∈ U) ∧ x.ls.length ≤ U.length) := ⟨hxn, hxb, hxu, hxl⟩
                  have HBwv16 : Hid (Below wd.heap.size wd v16) := HBwv15.out.trans (hb.mono HBwv15.out.size)
                  have HS8v16 : Hid (SB RcK b1 (rcL zr) v16 ∧ wd.heap.size ≤ b1) := ⟨HS8v15.out.1.blk (hb.block b1 HS8v15.out.1.lt), HS8v15.out.2⟩
                  have HS9v16 : Hid (SB RcK b2 (rcL zr) v16 ∧ wd.heap.size ≤ b2) := ⟨HS9v15.out.1.blk (hb.block b2 HS9v15.out.1.lt), HS9v15.out.2⟩
                  have HXv16 : Hid (RcOk (fun g => wd.heap.size ≤ g) v16 x) := hxo.mono (fun g hg => Nat.le_trans HBwv15.out.size hg)
                  have HN8 : Hid (∀ g o q, x.a = some ⟨g, o, q⟩ → g ≠ b1) := fun g o q e => by have h1 := (hxo.f g o q e).1; have h2 := HS8v15.out.1.lt; omega
                  have HN9 : Hid (∀ g o q, x.a = some ⟨g, o, q⟩ → g ≠ b2) := fun g o q e => by have h1 := (hxo.f g o q e).1; have h2 := HS9v15.out.1.lt; omega
                  clear hxn hxb hxo hb hxu hxl
                  refine hK.out _ _ HBwv16.out (fun hHeld => ?_)
                  clear hK K
                  try simp only [Act.put, List.getElem_toArray, List.getElem_cons_zero, List.getElem_cons_succ, List.setIfInBounds_toArray, List.set_cons_zero, List.set_cons_succ]
                  refine wpAnyH_ready (rs := [10]) (by kernel_rfl) (by simp) ?_
                  refine AllReadyH.cons rfl (fun K hK => ?_) AllReadyH.nil
                  refine sstore_step RcK (.tmp 11) (.tmp 49) rfl (b := b1) (cs := rcL zr) (cs' := rcL q) rfl rfl HS8v16.out.1 rfl rfl rfl rfl (fun y1 hy1 hz1 => ?_)
                  have HY1 : Hid (Below wd.heap.size wd y1) := HBwv16.out.trans (hz1.out.below HS8v16.out.2)
                  refine hK.out _ _ HY1.out (fun hHeld => ?_)
                  clear hK K
                  try simp only [Act.put, List.getElem_toArray, List.getElem_cons_zero, List.getElem_cons_succ, List.setIfInBounds_toArray, List.set_cons_zero, List.set_cons_succ]
                  refine wpAnyH_ready (rs := [11]) (by kernel_rfl) (by simp) ?_
                  refine AllReadyH.cons rfl (fun K hK => ?_) AllReadyH.nil
                  refine sstore_step RcK (.tmp 12) (.tmp 53) rfl (b := b2) (cs := rcL zr) (cs' := rcL x) rfl rfl (HS9v16.out.1.blk (hz1.out.block b2 (Ne.symm H12.out))) rfl rfl rfl rfl (fun y2 hy2 hz2 => ?_)
                  have HY2 : Hid (Below wd.heap.size wd y2) := HY1.out.trans (hz2.out.below HS9v16.out.2)
                  refine hK.out _ _ HY2.out (fun hHeld => ?_)
                  clear hK K
                  try simp only [Act.put, List.getElem_toArray, List.getElem_cons_zero, List.getElem_cons_succ, List.setIfInBounds_toArray, List.set_cons_zero, List.set_cons_succ]
                  refine wpAnyH_done (by kernel_rfl) ?_ _
                  refine ⟨b1, b2, q, x, rfl, ?_, HY2.out, hy1.out.blk (hz2.out.block b1 H12.out), hy2.out, H12.out, HS8v16.out.2, HS9v16.out.2, HQ.out.1, HQ.out.2, HXF.out.1, HXF.out.2.1, rc_keep (rc_keep HXv16.out hz1.out (fun g o q e => HN8.out g o q e)) hz2.out (fun g o q e => HN9.out g o q e), fun g o q e => ⟨HN8.out g o q e, HN9.out g o q e⟩, HXF.out.2.2.1, HXF.out.2.2.2⟩
                  simp only [List.foldl_cons, List.foldl_nil, Act.put, List.getElem_toArray, List.getElem_cons_zero, List.getElem_cons_succ, List.setIfInBounds_toArray, List.set_cons_zero, List.set_cons_succ]
            · refine snew_step RcK _ z_rc rfl rfl (fun b1 v17 hb1 hb2 hb => ?_)
              have HBwv17 : Hid (Below wd.heap.size wd v17) := HBwwd.out.trans (hb.out.mono HBwwd.out.size)
              have HS8v17 : Hid (SB RcK b1 (rcL zr) v17 ∧ wd.heap.size ≤ b1) := ⟨hb2.out, by rw [← hb1.out]; exact HBwwd.out.size⟩
              clear hb1 hb2 hb
              refine hK.out _ _ HBwv17.out (fun hHeld => ?_)
              clear hK K
              try simp only [Act.put, List.getElem_toArray, List.getElem_cons_zero, List.getElem_cons_succ, List.setIfInBounds_toArray, List.set_cons_zero, List.set_cons_succ]
              refine wpAnyH_ready (rs := [3, 9]) (by kernel_rfl) (by simp) ?_
              refine AllReadyH.cons rfl (fun K hK => ?_) (AllReadyH.cons rfl (fun K hK => ?_) AllReadyH.nil)
              · go_simp
                refine (now_any b root tb kb f k F n v17 (HTD.out.blk (HBwv17.out.block tb HTD.out.lt)) (HID.out.kn.bel HBwv17.out)).mono ?_
                rintro e v18 ⟨q, rfl, hqn, hqd, -, hb⟩
                have HQ : Hid (q.n = n ∧ nowP f n = (q.d, q.ls)) := ⟨hqn, hqd⟩
                have HBwv18 : Hid (Below wd.heap.size wd v18) := HBwv17.out.trans (hb.mono HBwv17.out.size)
                have HS8v18 : Hid (SB RcK b1 (rcL zr) v18 ∧ wd.heap.size ≤ b1) := ⟨HS8v17.out.1.blk (hb.block b1 HS8v17.out.1.lt), HS8v17.out.2⟩
                clear hqn hqd hb
                refine hK.out _ _ HBwv18.out (fun hHeld => ?_)
                clear hK K
                try simp only [Act.put, List.getElem_toArray, List.getElem_cons_zero, List.getElem_cons_succ, List.setIfInBounds_toArray, List.set_cons_zero, List.set_cons_succ]
                refine wpAnyH_ready (rs := [7, 9]) (by kernel_rfl) (by simp) ?_
                refine AllReadyH.cons rfl (fun K hK => ?_) (AllReadyH.cons rfl (fun K hK => ?_) AllReadyH.nil)
                · go_simp
                  refine (best_any B b vs root tb kb f k F U n v18 (Nat.le_trans HBW.out (Nat.le_trans HID.out.kf.size HBwv18.out.size)) (HTD.out.blk (HBwv18.out.block tb HTD.out.lt)) (HNB.out v18 (HID.out.nx HBwv18.out).kf).2.1 (HID.out.kn.bel HBwv18.out) HID.out.fo HUV.out.1 (by have := HUV.out.2; omega) HOK.out (fun g hg => ((HID.out.nx HBwv18.out).fl g hg).2.1)).mono ?_
                  rintro e v19 ⟨x, rfl, hxn, hxb, hxo, hb, hxu, hxl⟩
                  have HXF : Hid (x.n = n ∧ Best vs root f n x.d x.ls ∧ (∀ y ∈ x.ls, y ∈ U) ∧ x.ls.length ≤ U.length) := ⟨hxn, hxb, hxu, hxl⟩
                  have HBwv19 : Hid (Below wd.heap.size wd v19) := HBwv18.out.trans (hb.mono HBwv18.out.size)
                  have HS8v19 : Hid (SB RcK b1 (rcL zr) v19 ∧ wd.heap.size ≤ b1) := ⟨HS8v18.out.1.blk (hb.block b1 HS8v18.out.1.lt), HS8v18.out.2⟩
                  have HXv19 : Hid (RcOk (fun g => wd.heap.size ≤ g) v19 x) := hxo.mono (fun g hg => Nat.le_trans HBwv18.out.size hg)
                  have HN8 : Hid (∀ g o q, x.a = some ⟨g, o, q⟩ → g ≠ b1) := fun g o q e => by have h1 := (hxo.f g o q e).1; have h2 := HS8v18.out.1.lt; omega
                  clear hxn hxb hxo hb hxu hxl
                  refine hK.out _ _ HBwv19.out (fun hHeld => ?_)
                  clear hK K
                  try simp only [Act.put, List.getElem_toArray, List.getElem_cons_zero, List.getElem_cons_succ, List.setIfInBounds_toArray, List.set_cons_zero, List.set_cons_succ]
                  refine wpAnyH_ready (rs := [9]) (by kernel_rfl) (by simp) ?_
                  refine AllReadyH.cons rfl (fun K hK => ?_) AllReadyH.nil
                  refine snew_step RcK _ z_rc rfl rfl (fun b2 v20 hb1 hb2 hb => ?_)
                  have HBwv20 : Hid (Below wd.heap.size wd v20) := HBwv19.out.trans (hb.out.mono HBwv19.out.size)
                  have HS8v20 : Hid (SB RcK b1 (rcL zr) v20 ∧ wd.heap.size ≤ b1) := ⟨HS8v19.out.1.blk (hb.out.block b1 HS8v19.out.1.lt), HS8v19.out.2⟩
                  have HXv20 : Hid (RcOk (fun g => wd.heap.size ≤ g) v20 x) := HXv19.out.bel hb.out
                  have HS9v20 : Hid (SB RcK b2 (rcL zr) v20 ∧ wd.heap.size ≤ b2) := ⟨hb2.out, by rw [← hb1.out]; exact HBwv19.out.size⟩
                  have H12 : Hid (b1 ≠ b2) := by have h1 := HS8v19.out.1.lt; have h2 := hb1.out; show _ ≠ _; omega
                  have HN9 : Hid (∀ g o q, x.a = some ⟨g, o, q⟩ → g ≠ b2) := fun g o q e => by have h1 := (HXv19.out.f g o q e).2; have h2 := hb1.out; omega
                  clear hb1 hb2 hb
                  refine hK.out _ _ HBwv20.out (fun hHeld => ?_)
                  clear hK K
                  try simp only [Act.put, List.getElem_toArray, List.getElem_cons_zero, List.getElem_cons_succ, List.setIfInBounds_toArray, List.set_cons_zero, List.set_cons_succ]
                  refine wpAnyH_ready (rs := [10]) (by kernel_rfl) (by simp) ?_
                  refine AllReadyH.cons rfl (fun K hK => ?_) AllReadyH.nil
                  refine sstore_step RcK (.tmp 11) (.tmp 49) rfl (b := b1) (cs := rcL zr) (cs' := rcL q) rfl rfl HS8v20.out.1 rfl rfl rfl rfl (fun y1 hy1 hz1 => ?_)
                  have HY1 : Hid (Below wd.heap.size wd y1) := HBwv20.out.trans (hz1.out.below HS8v20.out.2)
                  refine hK.out _ _ HY1.out (fun hHeld => ?_)
                  clear hK K
                  try simp only [Act.put, List.getElem_toArray, List.getElem_cons_zero, List.getElem_cons_succ, List.setIfInBounds_toArray, List.set_cons_zero, List.set_cons_succ]
                  refine wpAnyH_ready (rs := [11]) (by kernel_rfl) (by simp) ?_
                  refine AllReadyH.cons rfl (fun K hK => ?_) AllReadyH.nil
                  refine sstore_step RcK (.tmp 12) (.tmp 53) rfl (b := b2) (cs := rcL zr) (cs' := rcL x) rfl rfl (HS9v20.out.1.blk (hz1.out.block b2 (Ne.symm H12.out))) rfl rfl rfl rfl (fun y2 hy2 hz2 => ?_)
                  have HY2 : Hid (Below wd.heap.size wd y2) := HY1.out.trans (hz2.out.below HS9v20.out.2)
                  refine hK.out _ _ HY2.out (fun hHeld => ?_)
                  clear hK K
                  try simp only [Act.put, List.getElem_toArray, List.getElem_cons_zero, List.getElem_cons_succ, List.setIfInBounds_toArray, List.set_cons_zero, List.set_cons_succ]
                  refine wpAnyH_done (by kernel_rfl) ?_ _
                  refine ⟨b1, b2, q, x, rfl, ?_, HY2.out, hy1.out.blk (hz2.out.block b1 H12.out), hy2.out, H12.out, HS8v20.out.2, HS9v20.out.2, HQ.out.1, HQ.out.2, HXF.out.1, HXF.out.2.1, rc_keep (rc_keep HXv20.out hz1.out (fun g o q e => HN8.out g o q e)) hz2.out (fun g o q e => HN9.out g o q e), fun g o q e => ⟨HN8.out g o q e, HN9.out g o q e⟩, HXF.out.2.2.1, HXF.out.2.2.2⟩
                  simp only [List.foldl_cons, List.foldl_nil, Act.put, List.getElem_toArray, List.getElem_cons_zero, List.getElem_cons_succ, List.setIfInBounds_toArray, List.set_cons_zero, List.set_cons_succ]
                · refine snew_step RcK _ z_rc rfl rfl (fun b2 v21 hb1 hb2 hb => ?_)
                  have HBwv21 : Hid (Below wd.heap.size wd v21) := HBwv18.out.trans (hb.out.mono HBwv18.out.size)
                  have HS8v21 : Hid (SB RcK b1 (rcL zr) v21 ∧ wd.heap.size ≤ b1) := ⟨HS8v18.out.1.blk (hb.out.block b1 HS8v18.out.1.lt), HS8v18.out.2⟩
                  have HS9v21 : Hid (SB RcK b2 (rcL zr) v21 ∧ wd.heap.size ≤ b2) := ⟨hb2.out, by rw [← hb1.out]; exact HBwv18.out.size⟩
                  have H12 : Hid (b1 ≠ b2) := by have h1 := HS8v18.out.1.lt; have h2 := hb1.out; show _ ≠ _; omega
                  clear hb1 hb2 hb
                  refine hK.out _ _ HBwv21.out (fun hHeld => ?_)
                  clear hK K
                  try simp only [Act.put, List.getElem_toArray, List.getElem_cons_zero, List.getElem_cons_succ, List.setIfInBounds_toArray, List.set_cons_zero, List.set_cons_succ]
                  refine wpAnyH_ready (rs := [7]) (by kernel_rfl) (by simp) ?_
                  refine AllReadyH.cons rfl (fun K hK => ?_) AllReadyH.nil
                  go_simp
                  refine (best_any B b vs root tb kb f k F U n v21 (Nat.le_trans HBW.out (Nat.le_trans HID.out.kf.size HBwv21.out.size)) (HTD.out.blk (HBwv21.out.block tb HTD.out.lt)) (HNB.out v21 (HID.out.nx HBwv21.out).kf).2.1 (HID.out.kn.bel HBwv21.out) HID.out.fo HUV.out.1 (by have := HUV.out.2; omega) HOK.out (fun g hg => ((HID.out.nx HBwv21.out).fl g hg).2.1)).mono ?_
                  rintro e v22 ⟨x, rfl, hxn, hxb, hxo, hb, hxu, hxl⟩
                  have HXF : Hid (x.n = n ∧ Best vs root f n x.d x.ls ∧ (∀ y ∈ x.ls, y ∈ U) ∧ x.ls.length ≤ U.length) := ⟨hxn, hxb, hxu, hxl⟩
                  have HBwv22 : Hid (Below wd.heap.size wd v22) := HBwv21.out.trans (hb.mono HBwv21.out.size)
                  have HS8v22 : Hid (SB RcK b1 (rcL zr) v22 ∧ wd.heap.size ≤ b1) := ⟨HS8v21.out.1.blk (hb.block b1 HS8v21.out.1.lt), HS8v21.out.2⟩
                  have HS9v22 : Hid (SB RcK b2 (rcL zr) v22 ∧ wd.heap.size ≤ b2) := ⟨HS9v21.out.1.blk (hb.block b2 HS9v21.out.1.lt), HS9v21.out.2⟩
                  have HXv22 : Hid (RcOk (fun g => wd.heap.size ≤ g) v22 x) := hxo.mono (fun g hg => Nat.le_trans HBwv21.out.size hg)
                  have HN8 : Hid (∀ g o q, x.a = some ⟨g, o, q⟩ → g ≠ b1) := fun g o q e => by have h1 := (hxo.f g o q e).1; have h2 := HS8v21.out.1.lt; omega
                  have HN9 : Hid (∀ g o q, x.a = some ⟨g, o, q⟩ → g ≠ b2) := fun g o q e => by have h1 := (hxo.f g o q e).1; have h2 := HS9v21.out.1.lt; omega
                  clear hxn hxb hxo hb hxu hxl
                  refine hK.out _ _ HBwv22.out (fun hHeld => ?_)
                  clear hK K
                  try simp only [Act.put, List.getElem_toArray, List.getElem_cons_zero, List.getElem_cons_succ, List.setIfInBounds_toArray, List.set_cons_zero, List.set_cons_succ]
                  refine wpAnyH_ready (rs := [10]) (by kernel_rfl) (by simp) ?_
                  refine AllReadyH.cons rfl (fun K hK => ?_) AllReadyH.nil
                  refine sstore_step RcK (.tmp 11) (.tmp 49) rfl (b := b1) (cs := rcL zr) (cs' := rcL q) rfl rfl HS8v22.out.1 rfl rfl rfl rfl (fun y1 hy1 hz1 => ?_)
                  have HY1 : Hid (Below wd.heap.size wd y1) := HBwv22.out.trans (hz1.out.below HS8v22.out.2)
                  refine hK.out _ _ HY1.out (fun hHeld => ?_)
                  clear hK K
                  try simp only [Act.put, List.getElem_toArray, List.getElem_cons_zero, List.getElem_cons_succ, List.setIfInBounds_toArray, List.set_cons_zero, List.set_cons_succ]
                  refine wpAnyH_ready (rs := [11]) (by kernel_rfl) (by simp) ?_
                  refine AllReadyH.cons rfl (fun K hK => ?_) AllReadyH.nil
                  refine sstore_step RcK (.tmp 12) (.tmp 53) rfl (b := b2) (cs := rcL zr) (cs' := rcL x) rfl rfl (HS9v22.out.1.blk (hz1.out.block b2 (Ne.symm H12.out))) rfl rfl rfl rfl (fun y2 hy2 hz2 => ?_)
                  have HY2 : Hid (Below wd.heap.size wd y2) := HY1.out.trans (hz2.out.below HS9v22.out.2)
                  refine hK.out _ _ HY2.out (fun hHeld => ?_)
                  clear hK K
                  try simp only [Act.put, List.getElem_toArray, List.getElem_cons_zero, List.getElem_cons_succ, List.setIfInBounds_toArray, List.set_cons_zero, List.set_cons_succ]
                  refine wpAnyH_done (by kernel_rfl) ?_ _
                  refine ⟨b1, b2, q, x, rfl, ?_, HY2.out, hy1.out.blk (hz2.out.block b1 H12.out), hy2.out, H12.out, HS8v22.out.2, HS9v22.out.2, HQ.out.1, HQ.out.2, HXF.out.1, HXF.out.2.1, rc_keep (rc_keep HXv22.out hz1.out (fun g o q e => HN8.out g o q e)) hz2.out (fun g o q e => HN9.out g o q e), fun g o q e => ⟨HN8.out g o q e, HN9.out g o q e⟩, HXF.out.2.2.1, HXF.out.2.2.2⟩
                  simp only [List.foldl_cons, List.foldl_nil, Act.put, List.getElem_toArray, List.getElem_cons_zero, List.getElem_cons_succ, List.setIfInBounds_toArray, List.set_cons_zero, List.set_cons_succ]
              · refine snew_step RcK _ z_rc rfl rfl (fun b2 v23 hb1 hb2 hb => ?_)
                have HBwv23 : Hid (Below wd.heap.size wd v23) := HBwv17.out.trans (hb.out.mono HBwv17.out.size)
                have HS8v23 : Hid (SB RcK b1 (rcL zr) v23 ∧ wd.heap.size ≤ b1) := ⟨HS8v17.out.1.blk (hb.out.block b1 HS8v17.out.1.lt), HS8v17.out.2⟩
                have HS9v23 : Hid (SB RcK b2 (rcL zr) v23 ∧ wd.heap.size ≤ b2) := ⟨hb2.out, by rw [← hb1.out]; exact HBwv17.out.size⟩
                have H12 : Hid (b1 ≠ b2) := by have h1 := HS8v17.out.1.lt; have h2 := hb1.out; show _ ≠ _; omega
                clear hb1 hb2 hb
                refine hK.out _ _ HBwv23.out (fun hHeld => ?_)
                clear hK K
                try simp only [Act.put, List.getElem_toArray, List.getElem_cons_zero, List.getElem_cons_succ, List.setIfInBounds_toArray, List.set_cons_zero, List.set_cons_succ]
                refine wpAnyH_ready (rs := [3]) (by kernel_rfl) (by simp) ?_
                refine AllReadyH.cons rfl (fun K hK => ?_) AllReadyH.nil
                go_simp
                refine (now_any b root tb kb f k F n v23 (HTD.out.blk (HBwv23.out.block tb HTD.out.lt)) (HID.out.kn.bel HBwv23.out)).mono ?_
                rintro e v24 ⟨q, rfl, hqn, hqd, -, hb⟩
                have HQ : Hid (q.n = n ∧ nowP f n = (q.d, q.ls)) := ⟨hqn, hqd⟩
                have HBwv24 : Hid (Below wd.heap.size wd v24) := HBwv23.out.trans (hb.mono HBwv23.out.size)
                have HS8v24 : Hid (SB RcK b1 (rcL zr) v24 ∧ wd.heap.size ≤ b1) := ⟨HS8v23.out.1.blk (hb.block b1 HS8v23.out.1.lt), HS8v23.out.2⟩
                have HS9v24 : Hid (SB RcK b2 (rcL zr) v24 ∧ wd.heap.size ≤ b2) := ⟨HS9v23.out.1.blk (hb.block b2 HS9v23.out.1.lt), HS9v23.out.2⟩
                clear hqn hqd hb
                refine hK.out _ _ HBwv24.out (fun hHeld => ?_)
                clear hK K
                try simp only [Act.put, List.getElem_toArray, List.getElem_cons_zero, List.getElem_cons_succ, List.setIfInBounds_toArray, List.set_cons_zero, List.set_cons_succ]
                refine wpAnyH_ready (rs := [7]) (by kernel_rfl) (by simp) ?_
                refine AllReadyH.cons rfl (fun K hK => ?_) AllReadyH.nil
                go_simp
                refine (best_any B b vs root tb kb f k F U n v24 (Nat.le_trans HBW.out (Nat.le_trans HID.out.kf.size HBwv24.out.size)) (HTD.out.blk (HBwv24.out.block tb HTD.out.lt)) (HNB.out v24 (HID.out.nx HBwv24.out).kf).2.1 (HID.out.kn.bel HBwv24.out) HID.out.fo HUV.out.1 (by have := HUV.out.2; omega) HOK.out (fun g hg => ((HID.out.nx HBwv24.out).fl g hg).2.1)).mono ?_
                rintro e v25 ⟨x, rfl, hxn, hxb, hxo, hb, hxu, hxl⟩
                have HXF : Hid (x.n = n ∧ Best vs root f n x.d x.ls ∧ (∀ y ∈ x.ls, y ∈ U) ∧ x.ls.length ≤ U.length) := ⟨hxn, hxb, hxu, hxl⟩
                have HBwv25 : Hid (Below wd.heap.size wd v25) := HBwv24.out.trans (hb.mono HBwv24.out.size)
                have HS8v25 : Hid (SB RcK b1 (rcL zr) v25 ∧ wd.heap.size ≤ b1) := ⟨HS8v24.out.1.blk (hb.block b1 HS8v24.out.1.lt), HS8v24.out.2⟩
                have HS9v25 : Hid (SB RcK b2 (rcL zr) v25 ∧ wd.heap.size ≤ b2) := ⟨HS9v24.out.1.blk (hb.block b2 HS9v24.out.1.lt), HS9v24.out.2⟩
                have HXv25 : Hid (RcOk (fun g => wd.heap.size ≤ g) v25 x) := hxo.mono (fun g hg => Nat.le_trans HBwv24.out.size hg)
                have HN8 : Hid (∀ g o q, x.a = some ⟨g, o, q⟩ → g ≠ b1) := fun g o q e => by have h1 := (hxo.f g o q e).1; have h2 := HS8v24.out.1.lt; omega
                have HN9 : Hid (∀ g o q, x.a = some ⟨g, o, q⟩ → g ≠ b2) := fun g o q e => by have h1 := (hxo.f g o q e).1; have h2 := HS9v24.out.1.lt; omega
                clear hxn hxb hxo hb hxu hxl
                refine hK.out _ _ HBwv25.out (fun hHeld => ?_)
                clear hK K
                try simp only [Act.put, List.getElem_toArray, List.getElem_cons_zero, List.getElem_cons_succ, List.setIfInBounds_toArray, List.set_cons_zero, List.set_cons_succ]
                refine wpAnyH_ready (rs := [10]) (by kernel_rfl) (by simp) ?_
                refine AllReadyH.cons rfl (fun K hK => ?_) AllReadyH.nil
                refine sstore_step RcK (.tmp 11) (.tmp 49) rfl (b := b1) (cs := rcL zr) (cs' := rcL q) rfl rfl HS8v25.out.1 rfl rfl rfl rfl (fun y1 hy1 hz1 => ?_)
                have HY1 : Hid (Below wd.heap.size wd y1) := HBwv25.out.trans (hz1.out.below HS8v25.out.2)
                refine hK.out _ _ HY1.out (fun hHeld => ?_)
                clear hK K
                try simp only [Act.put, List.getElem_toArray, List.getElem_cons_zero, List.getElem_cons_succ, List.setIfInBounds_toArray, List.set_cons_zero, List.set_cons_succ]
                refine wpAnyH_ready (rs := [11]) (by kernel_rfl) (by simp) ?_
                refine AllReadyH.cons rfl (fun K hK => ?_) AllReadyH.nil
                refine sstore_step RcK (.tmp 12) (.tmp 53) rfl (b := b2) (cs := rcL zr) (cs' := rcL x) rfl rfl (HS9v25.out.1.blk (hz1.out.block b2 (Ne.symm H12.out))) rfl rfl rfl rfl (fun y2 hy2 hz2 => ?_)
                have HY2 : Hid (Below wd.heap.size wd y2) := HY1.out.trans (hz2.out.below HS9v25.out.2)
                refine hK.out _ _ HY2.out (fun hHeld => ?_)
                clear hK K
                try simp only [Act.put, List.getElem_toArray, List.getElem_cons_zero, List.getElem_cons_succ, List.setIfInBounds_toArray, List.set_cons_zero, List.set_cons_succ]
                refine wpAnyH_done (by kernel_rfl) ?_ _
                refine ⟨b1, b2, q, x, rfl, ?_, HY2.out, hy1.out.blk (hz2.out.block b1 H12.out), hy2.out, H12.out, HS8v25.out.2, HS9v25.out.2, HQ.out.1, HQ.out.2, HXF.out.1, HXF.out.2.1, rc_keep (rc_keep HXv25.out hz1.out (fun g o q e => HN8.out g o q e)) hz2.out (fun g o q e => HN9.out g o q e), fun g o q e => ⟨HN8.out g o q e, HN9.out g o q e⟩, HXF.out.2.2.1, HXF.out.2.2.2⟩
                simp only [List.foldl_cons, List.foldl_nil, Act.put, List.getElem_toArray, List.getElem_cons_zero, List.getElem_cons_succ, List.setIfInBounds_toArray, List.set_cons_zero, List.set_cons_succ]
            · refine snew_step RcK _ z_rc rfl rfl (fun b2 v26 hb1 hb2 hb => ?_)
              have HBwv26 : Hid (Below wd.heap.size wd v26) := HBwwd.out.trans (hb.out.mono HBwwd.out.size)
              have HS9v26 : Hid (SB RcK b2 (rcL zr) v26 ∧ wd.heap.size ≤ b2) := ⟨hb2.out, by rw [← hb1.out]; exact HBwwd.out.size⟩
              clear hb1 hb2 hb
              refine hK.out _ _ HBwv26.out (fun hHeld => ?_)
              clear hK K
              try simp only [Act.put, List.getElem_toArray, List.getElem_cons_zero, List.getElem_cons_succ, List.setIfInBounds_toArray, List.set_cons_zero, List.set_cons_succ]
              refine wpAnyH_ready (rs := [3, 8]) (by kernel_rfl) (by simp) ?_
              refine AllReadyH.cons rfl (fun K hK => ?_) (AllReadyH.cons rfl (fun K hK => ?_) AllReadyH.nil)
              · go_simp
                refine (now_any b root tb kb f k F n v26 (HTD.out.blk (HBwv26.out.block tb HTD.out.lt)) (HID.out.kn.bel HBwv26.out)).mono ?_
                rintro e v27 ⟨q, rfl, hqn, hqd, -, hb⟩
                have HQ : Hid (q.n = n ∧ nowP f n = (q.d, q.ls)) := ⟨hqn, hqd⟩
                have HBwv27 : Hid (Below wd.heap.size wd v27) := HBwv26.out.trans (hb.mono HBwv26.out.size)
                have HS9v27 : Hid (SB RcK b2 (rcL zr) v27 ∧ wd.heap.size ≤ b2) := ⟨HS9v26.out.1.blk (hb.block b2 HS9v26.out.1.lt), HS9v26.out.2⟩
                clear hqn hqd hb
                refine hK.out _ _ HBwv27.out (fun hHeld => ?_)
                clear hK K
                try simp only [Act.put, List.getElem_toArray, List.getElem_cons_zero, List.getElem_cons_succ, List.setIfInBounds_toArray, List.set_cons_zero, List.set_cons_succ]
                refine wpAnyH_ready (rs := [7, 8]) (by kernel_rfl) (by simp) ?_
                refine AllReadyH.cons rfl (fun K hK => ?_) (AllReadyH.cons rfl (fun K hK => ?_) AllReadyH.nil)
                · go_simp
                  refine (best_any B b vs root tb kb f k F U n v27 (Nat.le_trans HBW.out (Nat.le_trans HID.out.kf.size HBwv27.out.size)) (HTD.out.blk (HBwv27.out.block tb HTD.out.lt)) (HNB.out v27 (HID.out.nx HBwv27.out).kf).2.1 (HID.out.kn.bel HBwv27.out) HID.out.fo HUV.out.1 (by have := HUV.out.2; omega) HOK.out (fun g hg => ((HID.out.nx HBwv27.out).fl g hg).2.1)).mono ?_
                  rintro e v28 ⟨x, rfl, hxn, hxb, hxo, hb, hxu, hxl⟩
                  have HXF : Hid (x.n = n ∧ Best vs root f n x.d x.ls ∧ (∀ y ∈ x.ls, y ∈ U) ∧ x.ls.length ≤ U.length) := ⟨hxn, hxb, hxu, hxl⟩
                  have HBwv28 : Hid (Below wd.heap.size wd v28) := HBwv27.out.trans (hb.mono HBwv27.out.size)
                  have HS9v28 : Hid (SB RcK b2 (rcL zr) v28 ∧ wd.heap.size ≤ b2) := ⟨HS9v27.out.1.blk (hb.block b2 HS9v27.out.1.lt), HS9v27.out.2⟩
                  have HXv28 : Hid (RcOk (fun g => wd.heap.size ≤ g) v28 x) := hxo.mono (fun g hg => Nat.le_trans HBwv27.out.size hg)
                  have HN9 : Hid (∀ g o q, x.a = some ⟨g, o, q⟩ → g ≠ b2) := fun g o q e => by have h1 := (hxo.f g o q e).1; have h2 := HS9v27.out.1.lt; omega
                  clear hxn hxb hxo hb hxu hxl
                  refine hK.out _ _ HBwv28.out (fun hHeld => ?_)
                  clear hK K
                  try simp only [Act.put, List.getElem_toArray, List.getElem_cons_zero, List.getElem_cons_succ, List.setIfInBounds_toArray, List.set_cons_zero, List.set_cons_succ]
                  refine wpAnyH_ready (rs := [8]) (by kernel_rfl) (by simp) ?_
                  refine AllReadyH.cons rfl (fun K hK => ?_) AllReadyH.nil
                  refine snew_step RcK _ z_rc rfl rfl (fun b1 v29 hb1 hb2 hb => ?_)
                  have HBwv29 : Hid (Below wd.heap.size wd v29) := HBwv28.out.trans (hb.out.mono HBwv28.out.size)
                  have HS9v29 : Hid (SB RcK b2 (rcL zr) v29 ∧ wd.heap.size ≤ b2) := ⟨HS9v28.out.1.blk (hb.out.block b2 HS9v28.out.1.lt), HS9v28.out.2⟩
                  have HXv29 : Hid (RcOk (fun g => wd.heap.size ≤ g) v29 x) := HXv28.out.bel hb.out
                  have HS8v29 : Hid (SB RcK b1 (rcL zr) v29 ∧ wd.heap.size ≤ b1) := ⟨hb2.out, by rw [← hb1.out]; exact HBwv28.out.size⟩
                  have H12 : Hid (b1 ≠ b2) := by have h1 := HS9v28.out.1.lt; have h2 := hb1.out; show _ ≠ _; omega
                  have HN8 : Hid (∀ g o q, x.a = some ⟨g, o, q⟩ → g ≠ b1) := fun g o q e => by have h1 := (HXv28.out.f g o q e).2; have h2 := hb1.out; omega
                  clear hb1 hb2 hb
                  refine hK.out _ _ HBwv29.out (fun hHeld => ?_)
                  clear hK K
                  try simp only [Act.put, List.getElem_toArray, List.getElem_cons_zero, List.getElem_cons_succ, List.setIfInBounds_toArray, List.set_cons_zero, List.set_cons_succ]
                  refine wpAnyH_ready (rs := [10]) (by kernel_rfl) (by simp) ?_
                  refine AllReadyH.cons rfl (fun K hK => ?_) AllReadyH.nil
                  refine sstore_step RcK (.tmp 11) (.tmp 49) rfl (b := b1) (cs := rcL zr) (cs' := rcL q) rfl rfl HS8v29.out.1 rfl rfl rfl rfl (fun y1 hy1 hz1 => ?_)
                  have HY1 : Hid (Below wd.heap.size wd y1) := HBwv29.out.trans (hz1.out.below HS8v29.out.2)
                  refine hK.out _ _ HY1.out (fun hHeld => ?_)
                  clear hK K
                  try simp only [Act.put, List.getElem_toArray, List.getElem_cons_zero, List.getElem_cons_succ, List.setIfInBounds_toArray, List.set_cons_zero, List.set_cons_succ]
                  refine wpAnyH_ready (rs := [11]) (by kernel_rfl) (by simp) ?_
                  refine AllReadyH.cons rfl (fun K hK => ?_) AllReadyH.nil
                  refine sstore_step RcK (.tmp 12) (.tmp 53) rfl (b := b2) (cs := rcL zr) (cs' := rcL x) rfl rfl (HS9v29.out.1.blk (hz1.out.block b2 (Ne.symm H12.out))) rfl rfl rfl rfl (fun y2 hy2 hz2 => ?_)
                  have HY2 : Hid (Below wd.heap.size wd y2) := HY1.out.trans (hz2.out.below HS9v29.out.2)
                  refine hK.out _ _ HY2.out (fun hHeld => ?_)
                  clear hK K
                  try simp only [Act.put, List.getElem_toArray, List.getElem_cons_zero, List.getElem_cons_succ, List.setIfInBounds_toArray, List.set_cons_zero, List.set_cons_succ]
                  refine wpAnyH_done (by kernel_rfl) ?_ _
                  refine ⟨b1, b2, q, x, rfl, ?_, HY2.out, hy1.out.blk (hz2.out.block b1 H12.out), hy2.out, H12.out, HS8v29.out.2, HS9v29.out.2, HQ.out.1, HQ.out.2, HXF.out.1, HXF.out.2.1, rc_keep (rc_keep HXv29.out hz1.out (fun g o q e => HN8.out g o q e)) hz2.out (fun g o q e => HN9.out g o q e), fun g o q e => ⟨HN8.out g o q e, HN9.out g o q e⟩, HXF.out.2.2.1, HXF.out.2.2.2⟩
                  simp only [List.foldl_cons, List.foldl_nil, Act.put, List.getElem_toArray, List.getElem_cons_zero, List.getElem_cons_succ, List.setIfInBounds_toArray, List.set_cons_zero, List.set_cons_succ]
                · refine snew_step RcK _ z_rc rfl rfl (fun b1 v30 hb1 hb2 hb => ?_)
                  have HBwv30 : Hid (Below wd.heap.size wd v30) := HBwv27.out.trans (hb.out.mono HBwv27.out.size)
                  have HS9v30 : Hid (SB RcK b2 (rcL zr) v30 ∧ wd.heap.size ≤ b2) := ⟨HS9v27.out.1.blk (hb.out.block b2 HS9v27.out.1.lt), HS9v27.out.2⟩
                  have HS8v30 : Hid (SB RcK b1 (rcL zr) v30 ∧ wd.heap.size ≤ b1) := ⟨hb2.out, by rw [← hb1.out]; exact HBwv27.out.size⟩
                  have H12 : Hid (b1 ≠ b2) := by have h1 := HS9v27.out.1.lt; have h2 := hb1.out; show _ ≠ _; omega
                  clear hb1 hb2 hb
                  refine hK.out _ _ HBwv30.out (fun hHeld => ?_)
                  clear hK K
                  try simp only [Act.put, List.getElem_toArray, List.getElem_cons_zero, List.getElem_cons_succ, List.setIfInBounds_toArray, List.set_cons_zero, List.set_cons_succ]
                  refine wpAnyH_ready (rs := [7]) (by kernel_rfl) (by simp) ?_
                  refine AllReadyH.cons rfl (fun K hK => ?_) AllReadyH.nil
                  go_simp
                  refine (best_any B b vs root tb kb f k F U n v30 (Nat.le_trans HBW.out (Nat.le_trans HID.out.kf.size HBwv30.out.size)) (HTD.out.blk (HBwv30.out.block tb HTD.out.lt)) (HNB.out v30 (HID.out.nx HBwv30.out).kf).2.1 (HID.out.kn.bel HBwv30.out) HID.out.fo HUV.out.1 (by have := HUV.out.2; omega) HOK.out (fun g hg => ((HID.out.nx HBwv30.out).fl g hg).2.1)).mono ?_
                  rintro e v31 ⟨x, rfl, hxn, hxb, hxo, hb, hxu, hxl⟩
                  have HXF : Hid (x.n = n ∧ Best vs root f n x.d x.ls ∧ (∀ y ∈ x.ls, y ∈ U) ∧ x.ls.length ≤ U.length) := ⟨hxn, hxb, hxu, hxl⟩
                  have HBwv31 : Hid (Below wd.heap.size wd v31) := HBwv30.out.trans (hb.mono HBwv30.out.size)
                  have HS8v31 : Hid (SB RcK b1 (rcL zr) v31 ∧ wd.heap.size ≤ b1) := ⟨HS8v30.out.1.blk (hb.block b1 HS8v30.out.1.lt), HS8v30.out.2⟩
                  have HS9v31 : Hid (SB RcK b2 (rcL zr) v31 ∧ wd.heap.size ≤ b2) := ⟨HS9v30.out.1.blk (hb.block b2 HS9v30.out.1.lt), HS9v30.out.2⟩
                  have HXv31 : Hid (RcOk (fun g => wd.heap.size ≤ g) v31 x) := hxo.mono (fun g hg => Nat.le_trans HBwv30.out.size hg)
                  have HN8 : Hid (∀ g o q, x.a = some ⟨g, o, q⟩ → g ≠ b1) := fun g o q e => by have h1 := (hxo.f g o q e).1; have h2 := HS8v30.out.1.lt; omega
                  have HN9 : Hid (∀ g o q, x.a = some ⟨g, o, q⟩ → g ≠ b2) := fun g o q e => by have h1 := (hxo.f g o q e).1; have h2 := HS9v30.out.1.lt; omega
                  clear hxn hxb hxo hb hxu hxl
                  refine hK.out _ _ HBwv31.out (fun hHeld => ?_)
                  clear hK K
                  try simp only [Act.put, List.getElem_toArray, List.getElem_cons_zero, List.getElem_cons_succ, List.setIfInBounds_toArray, List.set_cons_zero, List.set_cons_succ]
                  refine wpAnyH_ready (rs := [10]) (by kernel_rfl) (by simp) ?_
                  refine AllReadyH.cons rfl (fun K hK => ?_) AllReadyH.nil
                  refine sstore_step RcK (.tmp 11) (.tmp 49) rfl (b := b1) (cs := rcL zr) (cs' := rcL q) rfl rfl HS8v31.out.1 rfl rfl rfl rfl (fun y1 hy1 hz1 => ?_)
                  have HY1 : Hid (Below wd.heap.size wd y1) := HBwv31.out.trans (hz1.out.below HS8v31.out.2)
                  refine hK.out _ _ HY1.out (fun hHeld => ?_)
                  clear hK K
                  try simp only [Act.put, List.getElem_toArray, List.getElem_cons_zero, List.getElem_cons_succ, List.setIfInBounds_toArray, List.set_cons_zero, List.set_cons_succ]
                  refine wpAnyH_ready (rs := [11]) (by kernel_rfl) (by simp) ?_
                  refine AllReadyH.cons rfl (fun K hK => ?_) AllReadyH.nil
                  refine sstore_step RcK (.tmp 12) (.tmp 53) rfl (b := b2) (cs := rcL zr) (cs' := rcL x) rfl rfl (HS9v31.out.1.blk (hz1.out.block b2 (Ne.symm H12.out))) rfl rfl rfl rfl (fun y2 hy2 hz2 => ?_)
                  have HY2 : Hid (Below wd.heap.size wd y2) := HY1.out.trans (hz2.out.below HS9v31.out.2)
                  refine hK.out _ _ HY2.out (fun hHeld => ?_)
                  clear hK K
                  try simp only [Act.put, List.getElem_toArray, List.getElem_cons_zero, List.getElem_cons_succ, List.setIfInBounds_toArray, List.set_cons_zero, List.set_cons_succ]
                  refine wpAnyH_done (by kernel_rfl) ?_ _
                  refine ⟨b1, b2, q, x, rfl, ?_, HY2.out, hy1.out.blk (hz2.out.block b1 H12.out), hy2.out, H12.out, HS8v31.out.2, HS9v31.out.2, HQ.out.1, HQ.out.2, HXF.out.1, HXF.out.2.1, rc_keep (rc_keep HXv31.out hz1.out (fun g o q e => HN8.out g o q e)) hz2.out (fun g o q e => HN9.out g o q e), fun g o q e => ⟨HN8.out g o q e, HN9.out g o q e⟩, HXF.out.2.2.1, HXF.out.2.2.2⟩
                  simp only [List.foldl_cons, List.foldl_nil, Act.put, List.getElem_toArray, List.getElem_cons_zero, List.getElem_cons_succ, List.setIfInBounds_toArray, List.set_cons_zero, List.set_cons_succ]
              · refine snew_step RcK _ z_rc rfl rfl (fun b1 v32 hb1 hb2 hb => ?_)
                have HBwv32 : Hid (Below wd.heap.size wd v32) := HBwv26.out.trans (hb.out.mono HBwv26.out.size)
                have HS9v32 : Hid (SB RcK b2 (rcL zr) v32 ∧ wd.heap.size ≤ b2) := ⟨HS9v26.out.1.blk (hb.out.block b2 HS9v26.out.1.lt), HS9v26.out.2⟩
                have HS8v32 : Hid (SB RcK b1 (rcL zr) v32 ∧ wd.heap.size ≤ b1) := ⟨hb2.out, by rw [← hb1.out]; exact HBwv26.out.size⟩
                have H12 : Hid (b1 ≠ b2) := by have h1 := HS9v26.out.1.lt; have h2 := hb1.out; show _ ≠ _; omega
                clear hb1 hb2 hb
                refine hK.out _ _ HBwv32.out (fun hHeld => ?_)
                clear hK K
                try simp only [Act.put, List.getElem_toArray, List.getElem_cons_zero, List.getElem_cons_succ, List.setIfInBounds_toArray, List.set_cons_zero, List.set_cons_succ]
                refine wpAnyH_ready (rs := [3]) (by kernel_rfl) (by simp) ?_
                refine AllReadyH.cons rfl (fun K hK => ?_) AllReadyH.nil
                go_simp
                refine (now_any b root tb kb f k F n v32 (HTD.out.blk (HBwv32.out.block tb HTD.out.lt)) (HID.out.kn.bel HBwv32.out)).mono ?_
                rintro e v33 ⟨q, rfl, hqn, hqd, -, hb⟩
                have HQ : Hid (q.n = n ∧ nowP f n = (q.d, q.ls)) := ⟨hqn, hqd⟩
                have HBwv33 : Hid (Below wd.heap.size wd v33) := HBwv32.out.trans (hb.mono HBwv32.out.size)
                have HS8v33 : Hid (SB RcK b1 (rcL zr) v33 ∧ wd.heap.size ≤ b1) := ⟨HS8v32.out.1.blk (hb.block b1 HS8v32.out.1.lt), HS8v32.out.2⟩
                have HS9v33 : Hid (SB RcK b2 (rcL zr) v33 ∧ wd.heap.size ≤ b2) := ⟨HS9v32.out.1.blk (hb.block b2 HS9v32.out.1.lt), HS9v32.out.2⟩
                clear hqn hqd hb
                refine hK.out _ _ HBwv33.out (fun hHeld => ?_)
                clear hK K
                try simp only [Act.put, List.getElem_toArray, List.getElem_cons_zero, List.getElem_cons_succ, List.setIfInBounds_toArray, List.set_cons_zero, List.set_cons_succ]
                refine wpAnyH_ready (rs := [7]) (by kernel_rfl) (by simp) ?_
                refine AllReadyH.cons rfl (fun K hK => ?_) AllReadyH.nil
                go_simp
                refine (best_any B b vs root tb kb f k F U n v33 (Nat.le_trans HBW.out (Nat.le_trans HID.out.kf.size HBwv33.out.size)) (HTD.out.blk (HBwv33.out.block tb HTD.out.lt)) (HNB.out v33 (HID.out.nx HBwv33.out).kf).2.1 (HID.out.kn.bel HBwv33.out) HID.out.fo HUV.out.1 (by have := HUV.out.2; omega) HOK.out (fun g hg => ((HID.out.nx HBwv33.out).fl g hg).2.1)).mono ?_
                rintro e v34 ⟨x, rfl, hxn, hxb, hxo, hb, hxu, hxl⟩
                have HXF : Hid (x.n = n ∧ Best vs root f n x.d x.ls ∧ (∀ y ∈ x.ls, y ∈ U) ∧ x.ls.length ≤ U.length) := ⟨hxn, hxb, hxu, hxl⟩
                have HBwv34 : Hid (Below wd.heap.size wd v34) := HBwv33.out.trans (hb.mono HBwv33.out.size)
                have HS8v34 : Hid (SB RcK b1 (rcL zr) v34 ∧ wd.heap.size ≤ b1) := ⟨HS8v33.out.1.blk (hb.block b1 HS8v33.out.1.lt), HS8v33.out.2⟩
                have HS9v34 : Hid (SB RcK b2 (rcL zr) v34 ∧ wd.heap.size ≤ b2) := ⟨HS9v33.out.1.blk (hb.block b2 HS9v33.out.1.lt), HS9v33.out.2⟩
                have HXv34 : Hid (RcOk (fun g => wd.heap.size ≤ g) v34 x) := hxo.mono (fun g hg => Nat.le_trans HBwv33.out.size hg)
                have HN8 : Hid (∀ g o q, x.a = some ⟨g, o, q⟩ → g ≠ b1) := fun g o q e => by have h1 := (hxo.f g o q e).1; have h2 := HS8v33.out.1.lt; omega
                have HN9 : Hid (∀ g o q, x.a = some ⟨g, o, q⟩ → g ≠ b2) := fun g o q e => by have h1 := (hxo.f g o q e).1; have h2 := HS9v33.out.1.lt; omega
                clear hxn hxb hxo hb hxu hxl
                refine hK.out _ _ HBwv34.out (fun hHeld => ?_)
                clear hK K
                try simp only [Act.put, List.getElem_toArray, List.getElem_cons_zero, List.getElem_cons_succ, List.setIfInBounds_toArray, List.set_cons_zero, List.set_cons_succ]
                refine wpAnyH_ready (rs := [10]) (by kernel_rfl) (by simp) ?_
                refine AllReadyH.cons rfl (fun K hK => ?_) AllReadyH.nil
                refine sstore_step RcK (.tmp 11) (.tmp 49) rfl (b := b1) (cs := rcL zr) (cs' := rcL q) rfl rfl HS8v34.out.1 rfl rfl rfl rfl (fun y1 hy1 hz1 => ?_)
                have HY1 : Hid (Below wd.heap.size wd y1) := HBwv34.out.trans (hz1.out.below HS8v34.out.2)
                refine hK.out _ _ HY1.out (fun hHeld => ?_)
                clear hK K
                try simp only [Act.put, List.getElem_toArray, List.getElem_cons_zero, List.getElem_cons_succ, List.setIfInBounds_toArray, List.set_cons_zero, List.set_cons_succ]
                refine wpAnyH_ready (rs := [11]) (by kernel_rfl) (by simp) ?_
                refine AllReadyH.cons rfl (fun K hK => ?_) AllReadyH.nil
                refine sstore_step RcK (.tmp 12) (.tmp 53) rfl (b := b2) (cs := rcL zr) (cs' := rcL x) rfl rfl (HS9v34.out.1.blk (hz1.out.block b2 (Ne.symm H12.out))) rfl rfl rfl rfl (fun y2 hy2 hz2 => ?_)
                have HY2 : Hid (Below wd.heap.size wd y2) := HY1.out.trans (hz2.out.below HS9v34.out.2)
                refine hK.out _ _ HY2.out (fun hHeld => ?_)
                clear hK K
                try simp only [Act.put, List.getElem_toArray, List.getElem_cons_zero, List.getElem_cons_succ, List.setIfInBounds_toArray, List.set_cons_zero, List.set_cons_succ]
                refine wpAnyH_done (by kernel_rfl) ?_ _
                refine ⟨b1, b2, q, x, rfl, ?_, HY2.out, hy1.out.blk (hz2.out.block b1 H12.out), hy2.out, H12.out, HS8v34.out.2, HS9v34.out.2, HQ.out.1, HQ.out.2, HXF.out.1, HXF.out.2.1, rc_keep (rc_keep HXv34.out hz1.out (fun g o q e => HN8.out g o q e)) hz2.out (fun g o q e => HN9.out g o q e), fun g o q e => ⟨HN8.out g o q e, HN9.out g o q e⟩, HXF.out.2.2.1, HXF.out.2.2.2⟩
                simp only [List.foldl_cons, List.foldl_nil, Act.put, List.getElem_toArray, List.getElem_cons_zero, List.getElem_cons_succ, List.setIfInBounds_toArray, List.set_cons_zero, List.set_cons_succ]
          intro b1 b2 q x wr2 hR
          try simp only [List.foldl_cons, List.foldl_nil]
          try simp only [Act.put, List.getElem_toArray, List.getElem_cons_zero, List.getElem_cons_succ, List.setIfInBounds_toArray, List.set_cons_zero, List.set_cons_succ]
          obtain ⟨r1, r2, r3, r4, r5, r6, r7, r8, r9, r10, r11, r12, r13, r14⟩ := hR.out
          obtain ⟨qn, qd, ql, qa, qc⟩ := q
          obtain ⟨xn, xd, xl, xa, xc⟩ := x
          dsimp only at r7 r8 r9 r10 r11 r12 r13 r14
          subst r7
          subst r9
          have hqd : qd = 4611686018427387903 := by have h9 := r8; rw [now_none HFN.out] at h9; exact (congrArg Prod.fst h9).symm
          subst hqd
          obtain ⟨hxd, htold⟩ := HDJ.out.1.told HOV.out (by have h1 := HKK.out.1; have h2 := HUV.out.2; unfold far; omega) HDJ.out.2.1 HDJ.out.2.2.1 r10
          subst hxd
          have HTO : Hid (Told vs root xn xd xl) := htold
          have HDB : Hid (0 ≤ xd ∧ xd ≤ 65535 * (k : Int) ∧ xd < 4611686018427387903) := by
            have h1 := HDJ.out.1.bd.2 xn xd HDJ.out.2.1
            have h2 := HKK.out.1
            have h3 := HUV.out.2
            obtain ⟨⟨p, hp, hl⟩, -⟩ := htold.sh
            have h4 := plen_nn HOV.out p _ _ hp
            exact ⟨by omega, h1, by omega⟩
          have HIR : Hid (TI w vs root U kb qb db sb f k F due2 KQ qv sv sx wr2) := HID.out.nx r1
          have HX1 : Hid (SB RcK b1 (rcL ⟨xn, 4611686018427387903, ql, qa, qc⟩) wr2 ∧ SB RcK b2 (rcL ⟨xn, xd, xl, xa, xc⟩) wr2) := ⟨r2, r3⟩
          have HFR : Hid (b1 ≠ b2 ∧ wd.heap.size ≤ b1 ∧ wd.heap.size ≤ b2) := ⟨r4, r5, r6⟩
          have HXR : Hid (RcOk (fun g => wd.heap.size ≤ g) wr2 ⟨xn, xd, xl, xa, xc⟩ ∧ (∀ g o q, xa = some ⟨g, o, q⟩ → g ≠ b1 ∧ g ≠ b2) ∧ (∀ y ∈ xl, y ∈ U) ∧ xl.length ≤ U.length) := ⟨r11, r12, r13, r14⟩
          have HC9R : Hid (SB TnK c9 (tnL ⟨xd, xn⟩) wr2) := HC9D.out.blk (r1.block c9 HC9D.out.lt)
          have HTR : Hid (SB TrK tb (trL b root kb) wr2) := HTD.out.blk (r1.block tb HTD.out.lt)
          have HC9L : Hid (c9 < wd.heap.size) := HC9D.out.lt
          clear hR r1 r2 r3 r4 r5 r6 r8 r10 r11 r12 r13 r14 htold HC9D HTD HTY
          have hd0 : 0 ≤ xd := HDB.out.1
          have hd1 : xd < 4611686018427387903 := HDB.out.2.2
          have hd2 : ¬ (4611686018427387903 : Int) < xd := by omega
          have hd3 : ¬ (4611686018427387903 : Int) ≤ xd := by omega
          have hd4 : xd ≤ 4611686018427387903 := by omega
          have c11 : wr2.cell? ⟨b1, 1, none⟩ = some (.int .i64 4611686018427387903) := HX1.out.1.cell 1
          have c21 : wr2.cell? ⟨b2, 1, none⟩ = some (.int .i64 xd) := HX1.out.2.cell 1
          have c90 : wr2.cell? ⟨c9, 0, none⟩ = some (.int .i64 xd) := HC9R.out.cell 0
          go_wp2_with (first | (refine list_sload RcK rfl _ rfl (b := b1) (cs := rcL ⟨xn, 4611686018427387903, ql, qa, qc⟩) rfl HX1.out.1 rfl ?_) | (refine list_sload RcK rfl _ rfl (b := b2) (cs := rcL ⟨xn, xd, xl, xa, xc⟩) rfl HX1.out.2 rfl ?_))
          refine (same_any ⟨xn, 4611686018427387903, ql, qa, qc⟩ ⟨xn, xd, xl, xa, xc⟩ wr2 (by show (4611686018427387903 : Int) ≠ xd; omega)).mono ?_
          rintro e ws ⟨rfl, hbs⟩
          have HIS : Hid (TI w vs root U kb qb db sb f k F due2 KQ qv sv sx ws) := HIR.out.nx hbs
          have HXS : Hid (SB RcK b1 (rcL ⟨xn, 4611686018427387903, ql, qa, qc⟩) ws ∧ SB RcK b2 (rcL ⟨xn, xd, xl, xa, xc⟩) ws ∧ SB TnK c9 (tnL ⟨xd, xn⟩) ws ∧ SB TrK tb (trL b root kb) ws ∧ RcOk (fun g => wd.heap.size ≤ g) ws ⟨xn, xd, xl, xa, xc⟩) := ⟨HX1.out.1.blk (hbs.block b1 HX1.out.1.lt), HX1.out.2.blk (hbs.block b2 HX1.out.2.lt), HC9R.out.blk (hbs.block c9 HC9R.out.lt), HTR.out.blk (hbs.block tb HTR.out.lt), HXR.out.1.bel hbs⟩
          have c11 : ws.cell? ⟨b1, 1, none⟩ = some (.int .i64 4611686018427387903) := HXS.out.1.cell 1
          have c21 : ws.cell? ⟨b2, 1, none⟩ = some (.int .i64 xd) := HXS.out.2.1.cell 1
          have c90 : ws.cell? ⟨c9, 0, none⟩ = some (.int .i64 xd) := HXS.out.2.2.1.cell 0
          clear hbs HIR HX1 HC9R HTR
          go_upto_region 12 with fail
          obtain ⟨wh, hwh⟩ : ∃ y, ws.drew = y := ⟨_, rfl⟩
          have HWH : Hid (ws.drew = wh) := hwh
          have HBH : Hid (Below ws.heap.size ws wh) := by rw [← hwh]; exact drew_bel ws
          have HIH : Hid (TI w vs root U kb qb db sb f k F due2 KQ qv sv sx wh) := HIS.out.nx HBH.out
          have HXH : Hid (SB RcK b1 (rcL ⟨xn, 4611686018427387903, ql, qa, qc⟩) wh ∧ SB RcK b2 (rcL ⟨xn, xd, xl, xa, xc⟩) wh ∧ SB TnK c9 (tnL ⟨xd, xn⟩) wh ∧ SB TrK tb (trL b root kb) wh ∧ RcOk (fun g => wd.heap.size ≤ g) wh ⟨xn, xd, xl, xa, xc⟩) := ⟨HXS.out.1.blk (HBH.out.block b1 HXS.out.1.lt), HXS.out.2.1.blk (HBH.out.block b2 HXS.out.2.1.lt), HXS.out.2.2.1.blk (HBH.out.block c9 HXS.out.2.2.1.lt), HXS.out.2.2.2.1.blk (HBH.out.block tb HXS.out.2.2.2.1.lt), HXS.out.2.2.2.2.bel HBH.out⟩
          clear hwh HIS HXS HBH c11 c21 c90 hd0 hd1 hd2 hd3 hd4
          obtain ⟨ks, kcl, hm, hmok, hml, hm4, hm5⟩ := HIH.out.kn.ex
          have HM : Hid (MB MIR kb ks kcl wh) := hm
          have HMO : Hid (Mok ks kcl ∧ ks.length = k ∧ (∀ n, mget ks n = none → f n = none) ∧ ∀ n r, mget ks n = some r → r.n = n ∧ f n = some (r.d, r.ls) ∧ RcOk F wh r) := ⟨hmok, hml, hm4, hm5⟩
          clear hm hmok hml hm4 hm5
          have HNK : Hid (c9 ≠ kb ∧ b1 ≠ kb ∧ b2 ≠ kb ∧ tb ≠ kb) := by
            have h1 := HID.out.kw
            have h2 := HFR.out
            have h3 := HID.out.kf.size
            have h4 := HC9.out.2.1
            exact ⟨by omega, by omega, by omega, fun c => HKB.out.2.1 c.symm⟩
          refine wp_region_held_drew (S := fun W => SB TrK tb (trL b root kb) W ∧ SB TnK c9 (tnL ⟨xd, xn⟩) W ∧ SB RcK b2 (rcL ⟨xn, xd, xl, xa, xc⟩) W) (by kernel_rfl) (by rw [HWH.out]; exact ⟨HXH.out.2.2.2.1, HXH.out.2.2.1, HXH.out.2.1⟩) (fun hHeld => ?_)
          rw [HWH.out] at hHeld ⊢
          refine wpAnyH_take (i := 0) (v := .pointer (some ⟨tb, 0, none⟩)) rfl (by kernel_rfl) (by kernel_rfl) (by kernel_rfl) (fun _ _ _ h => h) (Or.inl ⟨by rfl, ?_⟩) (by assumption) ?_
          case refine_1 => intro W hSw; go_simp; try rfl
          try simp only [Act.put, List.getElem_toArray, List.getElem_cons_zero, List.getElem_cons_succ, List.setIfInBounds_toArray, List.set_cons_zero, List.set_cons_succ]
          refine wpAnyH_take (i := 1) (v := .pointer (some ⟨tb, 0, none⟩)) rfl (by kernel_rfl) (by kernel_rfl) (by kernel_rfl) (fun _ _ _ h => h) (Or.inl ⟨by rfl, ?_⟩) (by assumption) ?_
          case refine_1 => intro W hSw; go_simp; try rfl
          try simp only [Act.put, List.getElem_toArray, List.getElem_cons_zero, List.getElem_cons_succ, List.setIfInBounds_toArray, List.set_cons_zero, List.set_cons_succ]
          refine wpAnyH_take (i := 2) (v := .pointer (some ⟨tb, 5, none⟩)) rfl (by kernel_rfl) (by kernel_rfl) (by kernel_rfl) (fun _ _ _ h => h) (Or.inl ⟨by rfl, ?_⟩) (by assumption) ?_
          case refine_1 => intro W hSw; go_simp; try rfl
          try simp only [Act.put, List.getElem_toArray, List.getElem_cons_zero, List.getElem_cons_succ, List.setIfInBounds_toArray, List.set_cons_zero, List.set_cons_succ]
          refine wpAnyH_take (i := 3) (v := .map (some kb)) rfl (by kernel_rfl) (by kernel_rfl) (by kernel_rfl) (fun _ _ _ h => h) (Or.inl ⟨by rfl, ?_⟩) (by assumption) ?_
          case refine_1 => intro W hSw; have k1 : W.cell? ⟨tb, 5, none⟩ = some (.map (some kb)) := hSw.1.cell 5; go_simp; try rfl
          try simp only [Act.put, List.getElem_toArray, List.getElem_cons_zero, List.getElem_cons_succ, List.setIfInBounds_toArray, List.set_cons_zero, List.set_cons_succ]
          refine wpAnyH_take (i := 4) (v := .pointer (some ⟨c9, 1, none⟩)) rfl (by kernel_rfl) (by kernel_rfl) (by kernel_rfl) (fun _ _ _ h => h) (Or.inl ⟨by rfl, ?_⟩) (by assumption) ?_
          case refine_1 => intro W hSw; go_simp; try rfl
          try simp only [Act.put, List.getElem_toArray, List.getElem_cons_zero, List.getElem_cons_succ, List.setIfInBounds_toArray, List.set_cons_zero, List.set_cons_succ]
          refine wpAnyH_take (i := 5) (v := .int .i64 xn) rfl (by kernel_rfl) (by kernel_rfl) (by kernel_rfl) (fun _ _ _ h => h) (Or.inl ⟨by rfl, ?_⟩) (by assumption) ?_
          case refine_1 => intro W hSw; have k1 : W.cell? ⟨c9, 1, none⟩ = some (.int .i64 xn) := hSw.2.1.cell 1; go_simp; try rfl
          try simp only [Act.put, List.getElem_toArray, List.getElem_cons_zero, List.getElem_cons_succ, List.setIfInBounds_toArray, List.set_cons_zero, List.set_cons_succ]
          refine wpAnyH_take (i := 6) (v := .agg (rcL ⟨xn, xd, xl, xa, xc⟩).toArray) rfl (by kernel_rfl) (by kernel_rfl) (by kernel_rfl) (fun _ _ _ h => h) (Or.inl ⟨by rfl, (fun W hSw => Go.Proofs.Ythhdpfgepjmgkaa.Ge.sload_run RcK (.tmp 12) rfl (b := b2) rfl hSw.2.2 rfl)⟩) (by assumption) ?_
          try simp only [Act.put, List.getElem_toArray, List.getElem_cons_zero, List.getElem_cons_succ, List.setIfInBounds_toArray, List.set_cons_zero, List.set_cons_succ]
          refine wpAnyH_ready (rs := [7]) (by kernel_rfl) (by simp) ?_
          refine AllReadyH.cons rfl (fun K hK => ?_) AllReadyH.nil
          refine put_step MIR (.tmp 62) (.tmp 64) (.tmp 65) rfl (k := xn) (u := ⟨xn, xd, xl, xa, xc⟩) rfl rfl rfl HM.out rfl (fun wp hmp hkp => ?_)
          refine hK.out _ _ ⟨hHeld.1.blk (hkp.out.block tb HNK.out.2.2.2), hHeld.2.1.blk (hkp.out.block c9 HNK.out.1), hHeld.2.2.blk (hkp.out.block b2 HNK.out.2.2.1)⟩ (fun hHeld => ?_)
          clear hK K
          try simp only [Act.put, List.getElem_toArray, List.getElem_cons_zero, List.getElem_cons_succ, List.setIfInBounds_toArray, List.set_cons_zero, List.set_cons_succ]
          refine wpAnyH_done (by kernel_rfl) ?_ _
          obtain ⟨f2, hf2⟩ : ∃ y, putK f xn xd xl = y := ⟨_, rfl⟩
          have HF2 : Hid (putK f xn xd xl = f2) := hf2
          obtain ⟨F2, hF2⟩ : ∃ y : Nat → Prop, (fun g => F g ∨ (wd.heap.size ≤ g ∧ g < wh.heap.size ∧ g ≠ b1 ∧ g ≠ b2)) = y := ⟨_, rfl⟩
          have HF3 : Hid ((fun g => F g ∨ (wd.heap.size ≤ g ∧ g < wh.heap.size ∧ g ≠ b1 ∧ g ≠ b2)) = F2) := hF2
          have HIP : Hid (TI w vs root U kb qb db sb f2 (k + 1) F2 due2 KQ qv sv sx wp) := by
            have hx : RcOk (fun g => wd.heap.size ≤ g ∧ g ≠ b1 ∧ g ≠ b2) wh ⟨xn, xd, xl, xa, xc⟩ := ⟨HXH.out.2.2.2.2.l, HXH.out.2.2.2.2.z, fun g o q e => ⟨⟨(HXH.out.2.2.2.2.f g o q e).1, HXR.out.2.1 g o q e⟩, (HXH.out.2.2.2.2.f g o q e).2⟩⟩
            have h1 := HIH.out.put (x := ⟨xn, xd, xl, xa, xc⟩) HMO.out.1 HMO.out.2.1 HMO.out.2.2.1 HMO.out.2.2.2 hmp.out hkp.out hx (fun g hg hl => ⟨Nat.le_trans HID.out.kf.size hg.1, (HID.out.fresh hg.1).1, (HID.out.fresh hg.1).2.1⟩) HFN.out ⟨HDB.out.1, (by have := HDB.out.2.2; unfold far; show xd ≤ _; omega), HXR.out.2.2.1, Nat.le_trans HXR.out.2.2.2 HUV.out.1⟩
            have h2 : (fun g => F g ∨ ((wd.heap.size ≤ g ∧ g ≠ b1 ∧ g ≠ b2) ∧ g < wh.heap.size)) = F2 := by
              rw [← hF2]
              funext g
              exact propext ⟨fun c => c.imp id (fun c => ⟨c.1.1, c.2, c.1.2⟩), fun c => c.imp id (fun c => ⟨⟨c.1, c.2.2⟩, c.2.1⟩)⟩
            rw [h2] at h1
            rw [← hf2]
            exact h1
          have HXP : Hid (SB RcK b1 (rcL ⟨xn, 4611686018427387903, ql, qa, qc⟩) wp ∧ SB TnK c9 (tnL ⟨xd, xn⟩) wp) := ⟨HXH.out.1.blk (hkp.out.block b1 HNK.out.2.1), hHeld.2.1⟩
          have HSZ : Hid (wp.heap.size = wh.heap.size ∧ wd.heap.size ≤ wh.heap.size) := ⟨hkp.out.size, by have h1 := HXH.out.1.lt; have h2 := HFR.out; omega⟩
          have HDN : Hid (Dij vs root f2 ((vs.filter (fun e => decide (e.f = xn))).foldl (spS vs f2 far xd) due2) (k + 1)) := by
            have h1 := HDJ.out.1.turn HOV.out (by have h1 := HKK.out.1; have h2 := HUV.out.2; unfold far; omega) HDJ.out.2.1 HDJ.out.2.2.1 HTO.out
            rw [hf2] at h1
            rw [HDJ.out.2.2.2]
            exact h1
          clear hf2 hF2 hmp hkp hHeld HIH HM HMO HXH
          have c91 : wp.cell? ⟨c9, 1, none⟩ = some (.int .i64 xn) := HXP.out.2.cell 1
          go_wp2_with (refine list_ibuild rfl _ rfl (m := xn) rfl ?_)
          intro b17 w17 hb17 hl17 hbl17
          have HL17 : Hid (Lst EI w17 (some ⟨b17, 0, none⟩) [xn]) := hl17.out
          have HI17 : Hid (TI w vs root U kb qb db sb f2 (k + 1) F2 due2 KQ qv sv sx w17) := HIP.out.nx hbl17.out
          have HX17 : Hid (SB RcK b1 (rcL ⟨xn, 4611686018427387903, ql, qa, qc⟩) w17 ∧ SB TnK c9 (tnL ⟨xd, xn⟩) w17) := ⟨HXP.out.1.blk (hbl17.out.block b1 HXP.out.1.lt), HXP.out.2.blk (hbl17.out.block c9 HXP.out.2.lt)⟩
          clear hb17 hl17 hbl17 c91
          go_wp2_with fail
          refine (sadd_any w.heap.size sb sv sx (rts vs root) (some ⟨b17, 0, none⟩) 1 1 [xn] w17 HI17.out.kf.size (by rw [rts_len]; have := HUV.out.2; omega) HI17.out.rs rfl HL17.out (fun e => by cases e) (by omega) (fun y hy => by rw [List.mem_singleton] at hy; rw [hy]; exact HNV.out)).mono ?_
          rintro e w18 ⟨rfl, sv2, sx2, hr18, -, hk18, hv18⟩
          have HI18 : Hid (TI w vs root U kb qb db sb f2 (k + 1) F2 due2 KQ qv sv2 sx2 w18) := HI17.out.set hk18 hr18 hv18
          have HNS : Hid (¬ fpT sb sv b1 ∧ ¬ fpT sb sv c9 ∧ b1 < w17.heap.size ∧ c9 < w17.heap.size) := ⟨(HID.out.fresh HFR.out.2.1).2.1, HC9.out.2.2.2.1, HX17.out.1.lt, HX17.out.2.lt⟩
          have HX18 : Hid (SB RcK b1 (rcL ⟨xn, 4611686018427387903, ql, qa, qc⟩) w18 ∧ SB TnK c9 (tnL ⟨xd, xn⟩) w18) := ⟨HX17.out.1.blk (hk18.blk b1 HX17.out.1.lt HNS.out.1), HX17.out.2.blk (hk18.blk c9 HX17.out.2.lt HNS.out.2.1)⟩
          clear hr18 hk18 hv18 HL17
          go_wp2_with (refine list_sload RcK rfl _ rfl (b := b1) (cs := rcL ⟨xn, 4611686018427387903, ql, qa, qc⟩) rfl HX18.out.1 rfl ?_)
          have HN2 : Hid ((nowP f2 xn).1 = xd) := by
            show _ = _
            rw [← HF2.out]
            unfold nowP putK
            rw [if_pos rfl]
            rfl
          refine (spread_any B w.heap.size w0 N1 Fo Fi em cm eo co ei ci b vs root tb kb f2 (k + 1) F2 U qb db qv KQ due2 ⟨xn, 4611686018427387903, ql, qa, qc⟩ w18 HNW.out.1 HI18.out.kf.size (HNB.out w18 HI18.out.kf).2.2.1 HNW.out.2.1 (HNB.out w18 HI18.out.kf).2.2.2 HI18.out.kn HI18.out.fo (by have := HUV.out.2; omega) HOV.out.c1 HI18.out.qs (fun g hg => ⟨Nat.le_trans HBW.out (HI18.out.ql g hg).1, (fun c => by have h1 := (HI18.out.ql g hg).1; have h2 := HT.out.lt; omega), (fun c => by have h1 := (HI18.out.ql g hg).1; have h2 := HI18.out.kw; omega), fun c => (HI18.out.fl g c).2.2.1 hg⟩) (by have h1 := HID.out.kq; have h2 := kc_le vs f; have h3 := HUV.out.2; omega) ⟨(by show (0 : Int) ≤ 4611686018427387903; decide), (by show (4611686018427387903 : Int) ≤ far; decide)⟩).mono ?_
          rintro e w19 ⟨rfl, qv3, hq19, hk19, ho19⟩
          have HI19 : Hid (TI w vs root U kb qb db sb f2 (k + 1) F2 ((vs.filter (fun e => decide (e.f = xn))).foldl (spS vs f2 far xd) due2) (KQ + (vs.filter (fun e => decide (e.f = xn))).length) qv3 sv2 sx2 w19) := by
            have h1 := hq19
            rw [HN2.out] at h1
            exact HI18.out.queue hk19 h1 ho19 (by have h2 := kc_put f xn xd xl HFN.out vs; rw [HF2.out] at h2; have h3 := HID.out.kq; omega)
          have HX19 : Hid (SB TnK c9 (tnL ⟨xd, xn⟩) w19) := HX18.out.2.blk (hk19.blk c9 HX18.out.2.lt HC9.out.2.2.1)
          clear hq19 hk19 ho19
          obtain ⟨KR, hKR⟩ : ∃ y, KQ + (vs.filter (fun e => decide (e.f = xn))).length = y := ⟨_, rfl⟩
          obtain ⟨due3, hdue3⟩ : ∃ y, (vs.filter (fun e => decide (e.f = xn))).foldl (spS vs f2 far xd) due2 = y := ⟨_, rfl⟩
          rw [hKR, hdue3] at HI19
          rw [hdue3] at HDN
          clear hKR hdue3
          go_wp2_with (first | (refine list_sload TnK rfl _ rfl (b := c9) (cs := tnL ⟨xd, xn⟩) rfl HX19.out rfl ?_) | (refine list_newl TnK _ z_tn rfl rfl ?_))
          intro d9 w20 hb20 hs20 hbl20
          have HF20 : Hid (w19.heap.size ≤ d9) := by rw [hb20.out]; exact Nat.le_refl _
          have HI20 : Hid (TI w vs root U kb qb db sb f2 (k + 1) F2 due3 KR qv3 sv2 sx2 w20) := HI19.out.nx hbl20.out
          have HS20 : Hid (SB TnK d9 (tnL ⟨0, 0⟩) w20) := hs20.out
          clear hb20 hs20 hbl20
          go_wp2_with (refine list_sstore TnK rfl _ _ rfl (b := d9) (cs := tnL ⟨0, 0⟩) (cs' := tnL ⟨xd, xn⟩) rfl rfl HS20.out rfl rfl rfl ?_)
          intro w21 hs21 hk21
          have HW9 : Hid (w.heap.size ≤ d9) := Nat.le_trans HI19.out.kf.size HF20.out
          have HI21 : Hid (TI w vs root U kb qb db sb f2 (k + 1) F2 due3 KR qv3 sv2 sx2 w21) := HI20.out.box hk21.out (HI19.out.fresh HF20.out) HW9.out
          have HS21 : Hid (SB TnK d9 (tnL ⟨xd, xn⟩) w21) := hs21.out
          clear hs21 hk21 HS20 HI20
          go_wp2_with fail
          refine (next_any w.heap.size qb db qv3 KR due3 w21 (by have h1 := HI21.out.kq; have h2 := kc_le vs f2; have h3 := HUV.out.2; omega) HI21.out.qs).mono ?_
          rintro e w22 ⟨qv4, hk22, ho22, hor⟩
          have HOR : Hid (∃ (d n : Int) (ok : Bool) (due4 : Int → Option Int), e = .returned (.tuple #[.agg (tnL ⟨d, n⟩).toArray, .bool ok]) ∧ Qs w.heap.size qb db qv4 KR due4 w22 ∧ (ok = true → due3 n = some d ∧ (∀ m dm, due3 m = some dm → d ≤ dm) ∧ due4 = dropP due3 n) ∧ (ok = false → ∀ m, due3 m = none)) := by
            rcases hor with ⟨h1, h2, h3⟩ | ⟨d, n, h1, h2, h3, h4⟩
            · exact ⟨0, 0, false, _, h1, h3, fun c => (by cases c), fun _ => h2⟩
            · exact ⟨d, n, true, _, h1, h4, fun _ => ⟨h2, h3, rfl⟩, fun c => (by cases c)⟩
          clear hor
          obtain ⟨d2, n2, ok3, due4, rfl, hq22, hT22, hF22⟩ := HOR.out
          have HDU : Hid ((ok3 = true → due3 n2 = some d2 ∧ (∀ m dm, due3 m = some dm → d2 ≤ dm) ∧ due4 = dropP due3 n2) ∧ (ok3 = false → ∀ m, due3 m = none)) := ⟨hT22, hF22⟩
          have HI22 : Hid (TI w vs root U kb qb db sb f2 (k + 1) F2 due4 KR qv4 sv2 sx2 w22) := HI21.out.queue hk22 hq22 (fun g hg => .inl (by rw [← ho22]; exact hg)) HI21.out.kq
          have HS22 : Hid (SB TnK d9 (tnL ⟨xd, xn⟩) w22) := HS21.out.blk (hk22.blk d9 HS21.out.lt (fun c => (HI19.out.fresh HF20.out).1 c))
          have HA22 : Hid (¬ fpQ qb db qv4 d9 ∧ ¬ fpT sb sv2 d9 ∧ ¬ F2 d9 ∧ d9 ≠ kb) := by
            have h1 := HI19.out.fresh HF20.out
            refine ⟨fun c => h1.1 ?_, h1.2⟩
            rcases c with c | c | c
            · exact .inl c
            · exact .inr (.inl c)
            · exact .inr (.inr (by rw [← ho22]; exact c))
          clear HOR hk22 ho22 hq22 hT22 hF22 HS21 HI21
          go_wp2_with (refine list_sstore TnK rfl _ _ rfl (b := d9) (cs := tnL ⟨xd, xn⟩) (cs' := tnL ⟨d2, n2⟩) rfl rfl HS22.out rfl rfl rfl ?_)
          intro w23 hs23 hk23
          have HG : Hid (TH w vs root U kb qb db sb d9 ok3 (k + 1) w23) := ⟨d2, n2, f2, F2, due3, due4, KR, qv4, sv2, sx2, HI22.out.box hk23.out HA22.out HW9.out, hs23.out, HW9.out, HA22.out.1, HA22.out.2.1, HA22.out.2.2.1, HDN.out, HDU.out.1, HDU.out.2⟩
          have HKL : Hid (kl w23 kb = k + 1) := (HI22.out.box hk23.out HA22.out HW9.out).kn.kl
          clear hs23 hk23 HS22
          go_wp2_with fail
          refine ⟨⟨d9, ok3, k + 1, rfl, rfl, HG.out⟩, ?_⟩
          have h1 := HKK.out
          have h2 := HKL.out
          omega
end Go.Proofs.Ythhdpfgepjmgkaa.Dj
