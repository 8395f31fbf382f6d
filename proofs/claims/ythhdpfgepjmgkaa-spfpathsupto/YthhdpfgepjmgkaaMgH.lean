/- spfMark: an answer is written over, and behind. SpfPaths: the law. -/
import Derived.Test.YthhdpfgepjmgkaaMgG
namespace Go.Proofs.Ythhdpfgepjmgkaa.Dj
open Go.ChangeShapes Go.WideShapes Go.ChangeAt Go.RowKit Go.Joins Go.Deep Go.Proofs.Ythhdpfgepjmgkaa.Ge
set_option linter.unusedVariables false
set_option linter.unusedSimpArgs false

theorem rc_same {rs : List Rc} {i : Nat} {q q' : Rc} (hq : rs[i]? = some q) (h : rcL q' = rcL q) : ER.cs (rs.set i q') = ER.cs rs := by
  obtain ⟨hi, e⟩ := List.getElem?_eq_some_iff.1 hq
  have h1 := cs_set ER (.int .i64 q.n) q' 0 (by decide) rs i hi (by show rcL q' = (rcL rs[i]).set 0 _; rw [h, e]; rfl)
  rw [h1]
  refine List.ext_getElem? (fun j => ?_)
  rw [List.getElem?_set]
  by_cases c : i * ER.k + 0 = j
  · rw [if_pos c]
    subst c
    have h2 := cs_at ER rs i hi 0 (by decide)
    rw [e] at h2
    have hl : i * ER.k + 0 < (ER.cs rs).length := by rw [cs_len]; have : (i + 1) * ER.k ≤ rs.length * ER.k := Nat.mul_le_mul_right _ hi; rw [Nat.add_mul] at this; have := ER.hk; omega
    rw [if_pos hl, h2]
    rfl
  · rw [if_neg c]
theorem own_same {N : Nat} {W : World} {v : Value} {rs rs' : List Rc} (h : OwnL ER N W v rs) (hl : rs'.length = rs.length) (hc : ER.cs rs' = ER.cs rs) : OwnL ER N W v rs' := ⟨by rw [hl, hc]; exact h.row⟩
/-- a link is written over -/
theorem Pw.link {N g m c i j : Nat} {rs : List Rc} {F : List Nat} {W : World} {q : Rc} {qb : Nat} (h : Pw N g m c rs F W) (hq : rs[i]? = some q) (ha : q.a = some ⟨qb, 0, none⟩) (hj : j < q.ls.length) (x : Int) :
    Pw N g m c (rs.set i ⟨q.n, q.d, q.ls.set j x, q.a, q.c⟩) F (W.setCell ⟨qb, j, none⟩ (.int .i64 x)) ∧ Below N W (W.setCell ⟨qb, j, none⟩ (.int .i64 x)) ∧ Kp F W (W.setCell ⟨qb, j, none⟩ (.int .i64 x)) := by
  have hil := (List.getElem?_eq_some_iff.1 hq).1
  have hqk := h.ck i q hq
  have hlv : lv q = .slice (some ⟨qb, 0, none⟩) q.ls.length q.c := by unfold lv; rw [ha]
  have hown : (lv q).ownBlock = some qb := by rw [hlv]; rfl
  have hset : ∀ b, b ≠ qb → (W.setCell ⟨qb, j, none⟩ (.int .i64 x)).heap[b]? = W.heap[b]? := fun b hd => Below.heap_setCell W ⟨qb, j, none⟩ _ b hd
  have hnb : N ≤ qb := (hqk.1.row.lt qb hown).1
  have hgq : g ≠ qb := fun e => hqk.2.1 (by rw [hown, e])
  have hlv2 : lv ⟨q.n, q.d, q.ls.set j x, q.a, q.c⟩ = lv q := by unfold lv; simp
  have h0 := hqk.1
  rw [hlv] at h0
  have h1 := h0.setc (i := j) (j := 0) hj (by decide) (.int .i64 x) x rfl
  have hjk : j * EI.k + 0 = j := by show j * 1 + 0 = j; omega
  rw [hjk] at h1
  refine ⟨⟨own_same (h.ow.blk (fun b e => by cases e; exact hset g hgq)) (by rw [List.length_set]) (rc_same hq (by unfold rcL; simp)), by rw [List.length_set]; exact h.ln, fun k p hp => ?_, fun k l p r hkl hp hr y e1 e2 => ?_, fun b hb => ⟨by have h8 := (h.fo b hb).1; simpa using h8, (h.fo b hb).2⟩⟩, (Below.refl N W).setCell (p := ⟨qb, j, none⟩) hnb _, by simp, fun b hb => hset b (fun e2 => hqk.2.2 b hb (by rw [hown, e2]))⟩
  · by_cases ck : k = i
    · subst ck
      rw [List.getElem?_set_self hil] at hp
      cases hp
      rw [hlv2]
      exact ⟨by rw [hlv]; exact h1, hqk.2⟩
    · rw [List.getElem?_set_ne (Ne.symm ck)] at hp
      have hpk := h.ck k p hp
      exact ⟨hpk.1.blk (fun b e => hset b (fun e2 => h.pw k i p q ck hp hq b e (by rw [hown, e2]))), hpk.2⟩
  · have hget : ∀ (t : Nat) (z : Rc), (rs.set i ⟨q.n, q.d, q.ls.set j x, q.a, q.c⟩)[t]? = some z → ∃ z0, rs[t]? = some z0 ∧ lv z = lv z0 := fun t z hz => by
      by_cases ct : t = i
      · subst ct
        rw [List.getElem?_set_self hil] at hz
        cases hz
        exact ⟨q, hq, hlv2⟩
      · rw [List.getElem?_set_ne (Ne.symm ct)] at hz
        exact ⟨z, hz, rfl⟩
    obtain ⟨p0, a1, a2⟩ := hget k p hp
    obtain ⟨r0, b1, b2⟩ := hget l r hr
    rw [a2] at e1
    rw [b2] at e2
    exact h.pw k l p0 r0 hkl a1 b1 y e1 e2
/-- its number is written over -/
theorem Pw.num {N g m c i k : Nat} {rs : List Rc} {F : List Nat} {W : World} {q : Rc} {n d z : Int} (h : Pw N g m c rs F W) (hq : rs[i]? = some q) (hk : k < 3) (hz : rcL ⟨n, d, q.ls, q.a, q.c⟩ = (rcL q).set k (.int .i64 z)) :
    Pw N g m c (rs.set i ⟨n, d, q.ls, q.a, q.c⟩) F (W.setCell ⟨g, i * 3 + k, none⟩ (.int .i64 z)) ∧ Below N W (W.setCell ⟨g, i * 3 + k, none⟩ (.int .i64 z)) ∧ Kp F W (W.setCell ⟨g, i * 3 + k, none⟩ (.int .i64 z)) := by
  obtain ⟨hil, hie⟩ := List.getElem?_eq_some_iff.1 hq
  have hset : ∀ b, b ≠ g → (W.setCell ⟨g, i * 3 + k, none⟩ (.int .i64 z)).heap[b]? = W.heap[b]? := fun b hd => Below.heap_setCell W ⟨g, i * 3 + k, none⟩ _ b hd
  have hget : ∀ (t : Nat) (y : Rc), (rs.set i ⟨n, d, q.ls, q.a, q.c⟩)[t]? = some y → ∃ y0, rs[t]? = some y0 ∧ lv y = lv y0 ∧ y.ls = y0.ls := fun t y hy => by
    by_cases ct : t = i
    · subst ct
      rw [List.getElem?_set_self hil] at hy
      cases hy
      exact ⟨q, hq, rfl, rfl⟩
    · rw [List.getElem?_set_ne (Ne.symm ct)] at hy
      exact ⟨y, hy, rfl, rfl⟩
  refine ⟨⟨h.ow.setc (i := i) (j := k) hil hk (.int .i64 z) ⟨n, d, q.ls, q.a, q.c⟩ (by rw [hie]; exact hz), by rw [List.length_set]; exact h.ln, fun t y hy => ?_, fun t l p r htl hp hr y e1 e2 => ?_, fun b hb => ⟨by have h8 := (h.fo b hb).1; simpa using h8, (h.fo b hb).2⟩⟩, (Below.refl N W).setCell (p := ⟨g, i * 3 + k, none⟩) h.ow.at0.2.2.2 _, by simp, fun b hb => hset b (h.fo b hb).2⟩
  · obtain ⟨y0, a1, a2, a3⟩ := hget t y hy
    have hk := h.ck t y0 a1
    rw [a2, a3]
    exact ⟨hk.1.blk (fun b e => hset b (fun e2 => hk.2.1 (by rw [e, e2]))), hk.2⟩
  · obtain ⟨p0, a1, a2, -⟩ := hget t p hp
    obtain ⟨r0, b1, b2, -⟩ := hget l r hr
    rw [a2] at e1
    rw [b2] at e2
    exact h.pw t l p0 r0 htl a1 b1 y e1 e2
/-- all lists are this long at most -/
def Lb (rs : List Rc) (B : Nat) : Prop := ∀ q ∈ rs, q.ls.length ≤ B
theorem Lb.set {rs : List Rc} {B B' i : Nat} {q : Rc} (h : Lb rs B) (hB : B ≤ B') (hq : q.ls.length ≤ B') : Lb (rs.set i q) B' := fun p hp => by
  rcases List.mem_or_eq_of_mem_set hp with c | c
  · exact Nat.le_trans (h p c) hB
  · rw [c]; exact hq
def SmPost (N : Nat) (F : List Nat) (w : World) (e : Ending) (w' : World) : Prop := e = .returned (.tuple #[]) ∧ Below N w w' ∧ Kp F w w'
set_option maxRecDepth 100000 in
set_option maxHeartbeats 64000000 in
theorem smark_any (N g m c : Nat) (rs : List Rc) (F : List Nat) (mk : Int) (w : World) (hp : Pw N g m c rs F w) (hN : N ≤ w.heap.size) (hm : m < 1000000000) (hb : Lb rs 1000000000) (hk : 0 ≤ mk ∧ mk ≤ 10000) : Calls Try.prog 10 #[.slice (some ⟨g, 0, none⟩) m c, .int .i64 mk] w (SmPost N F w) := by
  have HX : Hid (N ≤ w.heap.size ∧ m < 1000000000 ∧ ∀ b ∈ F, b < w.heap.size) := ⟨hN, hm, fun b hb => (hp.fo b hb).1⟩
  have HP0 : Hid (Pw N g m c rs F w ∧ Lb rs 1000000000) := ⟨hp, hb⟩
  have hm0 : (m : Int) < 1000000000 := by omega
  have hm2 : (0 : Int) ≤ (m : Int) := by omega
  obtain ⟨hk0, hk1⟩ := hk
  clear hp hN hm hb
  go_enter Try.func10, Try.ntmps10
  go_wp2_with fail
  go_loopw [11, 4, 5] (fun iv _ _ wr => ∃ (i : Nat) (rs : List Rc), i ≤ m ∧ iv = .int .i64 (i : Int) ∧ Pw N g m c rs F wr ∧ Lb rs 1000000000 ∧ (Below N w wr ∧ Kp F w wr)) (fun iv _ _ _ => m - (intOf iv).toNat)
  case atStart => exact ⟨0, rs, Nat.zero_le _, rfl, HP0.out.1, HP0.out.2, ⟨Below.refl _ _, Kp.refl _ _⟩⟩
  case round =>
    obtain ⟨i, rs, him, rfl, hpw, hlb, hbl⟩ := hrel
    obtain ⟨wz, hwz⟩ : ∃ y, wr = y := ⟨_, rfl⟩
    rw [hwz] at hpw hbl ⊢
    have HI : Hid (Pw N g m c rs F wz ∧ Lb rs 1000000000 ∧ (Below N w wz ∧ Kp F w wz) ∧ i ≤ m) := ⟨hpw, hlb, hbl, him⟩
    have hi0 : (i : Int) < 1000000000 := by omega
    have hi2 : (0 : Int) ≤ (i : Int) := by omega
    clear hpw hlb hbl hwz HP0
    by_cases hlt : i < m
    case neg =>
      have hii : ¬ (i : Int) < (m : Int) := by omega
      go_wp2_with fail
      clear hii
      go_loopw [35, 6, 7] (fun iv _ _ wr => ∃ (i : Nat) (rs : List Rc), i ≤ m ∧ iv = .int .i64 (i : Int) ∧ Pw N g m c rs F wr ∧ Lb rs (1000000000 + 20 * i) ∧ (Below N w wr ∧ Kp F w wr)) (fun iv _ _ _ => m - (intOf iv).toNat)
      case atStart => exact ⟨0, rs, Nat.zero_le _, rfl, HI.out.1, HI.out.2.1, HI.out.2.2.1⟩
      case round =>
        clear hi0 hi2 hlt
        obtain ⟨i1, rs1, him, rfl, hpw, hlb, hbl⟩ := hrel
        obtain ⟨wx, hwx⟩ : ∃ y, wr = y := ⟨_, rfl⟩
        rw [hwx] at hpw hbl ⊢
        have HB : Hid (Pw N g m c rs1 F wx ∧ Lb rs1 (1000000000 + 20 * i1) ∧ (Below N w wx ∧ Kp F w wx) ∧ i1 ≤ m) := ⟨hpw, hlb, hbl, him⟩
        have hi0 : (i1 : Int) < 1000000000 := by omega
        have hi2 : (0 : Int) ≤ (i1 : Int) := by omega
        clear hpw hlb hbl hwx
        by_cases hlt : i1 < m
        case neg =>
          have hii : ¬ (i1 : Int) < (m : Int) := by omega
          have HOC : Hid (OwnL ER N wx (.slice (some ⟨g, 0, none⟩) m c) rs1 ∧ rs1.length = m) := ⟨HB.out.1.ow, HB.out.1.ln⟩
          go_wp2_with fail
          go_loopw [8, 0] (fun kv ov wr => ∃ (k : Nat) (zs : List Rc), k ≤ 20 ∧ kv = .int .i64 (k : Int) ∧ OwnL ER N wr ov zs ∧ zs.length = m + k ∧ (∀ b ∈ F, ov.ownBlock ≠ some b) ∧ (Below N w wr ∧ Kp F w wr)) (fun kv _ _ => 20 - (intOf kv).toNat)
          case atStart => exact ⟨0, rs1, by omega, rfl, HOC.out.1, HOC.out.2, (fun b hb e => by cases e; exact (HB.out.1.fo g hb).2 rfl), HB.out.2.2.1⟩
          case round =>
            obtain ⟨k, zs, hk20, rfl, how, hzl, hnf, hbl⟩ := hrel
            obtain ⟨wy, hwy⟩ : ∃ y, wr = y := ⟨_, rfl⟩
            rw [hwy] at how hbl ⊢
            obtain ⟨oa, oc, rfl⟩ := own_sl how
            obtain ⟨on, hon⟩ : ∃ y, zs.length = y := ⟨_, rfl⟩
            rw [hon] at how hzl hnf ⊢
            have HC : Hid (OwnL ER N wy (.slice oa on oc) zs ∧ on = m + k ∧ (Below N w wy ∧ Kp F w wy) ∧ zs.length = on ∧ k ≤ 20 ∧ ∀ b ∈ F, (Value.slice oa on oc).ownBlock ≠ some b) := ⟨how, hzl, hbl, hon, hk20, hnf⟩
            have hkk0 : (k : Int) ≤ 20 := by omega
            have hkk2 : (0 : Int) ≤ (k : Int) := by omega
            clear how hzl hbl hon hnf hwy
            by_cases hlt3 : k < 20
            case neg =>
              have hkk : ¬ (k : Int) < 20 := by omega
              have HE : Hid (SmPost N F w (.returned (.tuple #[])) wy) := ⟨rfl, HC.out.2.2.1.1, HC.out.2.2.1.2⟩
              go_wp2_with fail
              refine ⟨rfl, .tuple #[], ?_, HE.out⟩
              simp [results, Try.results10, go_sem]
            have hkk : (k : Int) < 20 := by omega
            go_wp2_with (refine list_rbuild rfl _ rfl (m := ⟨mk, 0, [], none, 0⟩) rfl ?_)
            intro b75 w5 hb5 hl5 hbl5
            have HL5 : Hid (Lst ER w5 (some ⟨b75, 0, none⟩) [⟨mk, 0, [], none, 0⟩] ∧ Below wy.heap.size wy w5) := ⟨hl5.out, hbl5.out⟩
            have HO5 : Hid (OwnL ER N w5 (.slice oa on oc) zs) := HC.out.1.bel hbl5.out
            have HNW : Hid (N ≤ w5.heap.size) := Nat.le_trans (Nat.le_trans HX.out.1 HC.out.2.2.1.1.size) hbl5.out.size
            clear hb5 hl5 hbl5
            go_wp2_with (at_builtin; refine list_appL ER rfl _ _ 23 rfl rfl N (.slice oa on oc) zs [⟨mk, 0, [], none, 0⟩] (some ⟨b75, 0, none⟩) 1 1 w5 (by have := HC.out; have := HX.out; omega) rfl HO5.out rfl HL5.out.1 (fun h => by cases h) rfl HNW.out ?_)
            intro v6 w6 ho6 hg6 hn6
            have HG : Hid (∃ (k2 : Nat) (zs2 : List Rc), k2 ≤ 20 ∧ Value.int .i64 (↑k + 1) = .int .i64 (k2 : Int) ∧ OwnL ER N w6 v6 zs2 ∧ zs2.length = m + k2 ∧ (∀ b ∈ F, v6.ownBlock ≠ some b) ∧ (Below N w w6 ∧ Kp F w w6)) := ⟨k + 1, zs ++ [⟨mk, 0, [], none, 0⟩], by omega, by simp, ho6.out, by rw [List.length_append]; have := HC.out; simp; omega, (fun b hb e => by
              rcases hn6.out with k6 | k6
              · rw [k6] at e; exact HC.out.2.2.2.2.2 b hb e
              · rw [k6] at e; cases e; have h1 := HX.out.2.2 _ hb; have h2 := HC.out.2.2.1.2.size; have h3 := HL5.out.2.size; omega), (HC.out.2.2.1.1.trans (HL5.out.2.mono (Nat.le_trans HX.out.1 HC.out.2.2.1.1.size))).trans ((Below.refl N w5).grown hg6.out HNW.out (fun b e => (HO5.out.row.lt b e).1)), (HC.out.2.2.1.2.bel HX.out.2.2 HL5.out.2).trans ⟨hg6.out.size, fun b hb => hg6.out.block b (Nat.lt_of_lt_of_le (Nat.lt_of_lt_of_le (HX.out.2.2 b hb) HC.out.2.2.1.2.size) HL5.out.2.size) (fun e => HC.out.2.2.2.2.2 b hb e.symm)⟩⟩
            obtain ⟨a6, c6, hv6⟩ := own_sl ho6.out
            obtain ⟨n6, hn6'⟩ : ∃ y, (zs ++ [(⟨mk, 0, [], none, 0⟩ : Rc)]).length = y := ⟨_, rfl⟩
            rw [hn6'] at hv6
            subst hv6
            clear ho6 hg6 hn6 HO5 hn6'
            go_wp2_with fail
            refine ⟨HG.out, ?_⟩
            simp [intOf]
            omega
        have hii : (i1 : Int) < (m : Int) := by omega
        obtain ⟨z, hz⟩ : ∃ z, mk + 1 + (i1 : Int) = z := ⟨_, rfl⟩
        go_wp2_with fail
        go_loopw [7] (fun jv wr => ∃ (j : Nat) (rs2 : List Rc), j ≤ 20 ∧ jv = .int .i64 (j : Int) ∧ Pw N g m c rs2 F wr ∧ Lb rs2 (1000000000 + 20 * i1 + j) ∧ (Below N w wr ∧ Kp F w wr)) (fun jv _ => 20 - (intOf jv).toNat)
        case atStart => exact ⟨0, rs1, by omega, rfl, HB.out.1, HB.out.2.1, HB.out.2.2.1⟩
        case round =>
          obtain ⟨j, rs2, hj20, rfl, hpw, hlb, hbl⟩ := hrel
          obtain ⟨wy, hwy⟩ : ∃ y, wr = y := ⟨_, rfl⟩
          rw [hwy] at hpw hbl ⊢
          obtain ⟨q, hq⟩ : ∃ y, rs2[i1]? = some y := ⟨rs2[i1]'(by have := hpw.ln; omega), List.getElem?_eq_getElem _⟩
          have HJ : Hid (Pw N g m c rs2 F wy ∧ Lb rs2 (1000000000 + 20 * i1 + j) ∧ (Below N w wy ∧ Kp F w wy) ∧ rs2[i1]? = some q ∧ i1 < rs2.length) := ⟨hpw, hlb, hbl, hq, by have := hpw.ln; omega⟩
          have hj0 : (j : Int) ≤ 20 := by omega
          have hj2 : (0 : Int) ≤ (j : Int) := by omega
          have HCQ : Hid (∀ W, Below wy.heap.size wy W → ∀ k, k < 3 → W.cell? ⟨g, i1 * 3 + k, none⟩ = (rcL q)[k]?) := fun W hW k hk => by
            have h1 := ((HJ.out.1.bel hW).ow.at0.1 i1 HJ.out.2.2.2.2 k hk)
            rw [(List.getElem?_eq_some_iff.1 HJ.out.2.2.2.1).2] at h1
            exact h1
          have HFQ : Hid (∀ W, Below wy.heap.size wy W → ∀ k, W.frozen? ⟨g, i1 * 3 + k, none⟩ = false) := fun W hW k => (HJ.out.1.bel hW).ow.at0.2.1 _
          clear hpw hlb hbl hwy hq
          by_cases hlt2 : j < 20
          case neg =>
            have hjj : ¬ (j : Int) < 20 := by omega
            have cq0 : wy.cell? ⟨g, i1 * 3, none⟩ = some (.int .i64 q.n) := HCQ.out wy (Below.refl _ _) 0 (by decide)
            have fq0 : wy.frozen? ⟨g, i1 * 3, none⟩ = false := HFQ.out wy (Below.refl _ _) 0
            have HN1 : Hid (Pw N g m c (rs2.set i1 ⟨mk, q.d, q.ls, q.a, q.c⟩) F (wy.setCell ⟨g, i1 * 3, none⟩ (.int .i64 mk)) ∧ Below N wy (wy.setCell ⟨g, i1 * 3, none⟩ (.int .i64 mk)) ∧ Kp F wy (wy.setCell ⟨g, i1 * 3, none⟩ (.int .i64 mk))) := HJ.out.1.num (k := 0) HJ.out.2.2.2.1 (by decide) rfl
            clear hz
            have HW1 : Hid (Pw N g m c ((rs2.set i1 ⟨mk, q.d, q.ls, q.a, q.c⟩).set i1 ⟨mk, mk, q.ls, q.a, q.c⟩) F ((wy.setCell ⟨g, i1 * 3, none⟩ (.int .i64 mk)).setCell ⟨g, i1 * 3 + 1, none⟩ (.int .i64 mk)) ∧ Below N (wy.setCell ⟨g, i1 * 3, none⟩ (.int .i64 mk)) ((wy.setCell ⟨g, i1 * 3, none⟩ (.int .i64 mk)).setCell ⟨g, i1 * 3 + 1, none⟩ (.int .i64 mk)) ∧ Kp F (wy.setCell ⟨g, i1 * 3, none⟩ (.int .i64 mk)) ((wy.setCell ⟨g, i1 * 3, none⟩ (.int .i64 mk)).setCell ⟨g, i1 * 3 + 1, none⟩ (.int .i64 mk))) := HN1.out.1.num (k := 1) (q := ⟨mk, q.d, q.ls, q.a, q.c⟩) (n := mk) (d := mk) (List.getElem?_set_self HJ.out.2.2.2.2) (by decide) rfl
            have cq1 : wy.cell? ⟨g, i1 * 3 + 1, none⟩ = some (.int .i64 q.d) := HCQ.out wy (Below.refl _ _) 1 (by decide)
            have fq1 : wy.frozen? ⟨g, i1 * 3 + 1, none⟩ = false := HFQ.out wy (Below.refl _ _) 1
            have HG : Hid (∃ (i2 : Nat) (rs3 : List Rc), i2 ≤ m ∧ Value.int .i64 (↑i1 + 1) = .int .i64 (i2 : Int) ∧ Pw N g m c rs3 F ((wy.setCell ⟨g, i1 * 3, none⟩ (.int .i64 mk)).setCell ⟨g, i1 * 3 + 1, none⟩ (.int .i64 mk)) ∧ Lb rs3 (1000000000 + 20 * i2) ∧ (Below N w ((wy.setCell ⟨g, i1 * 3, none⟩ (.int .i64 mk)).setCell ⟨g, i1 * 3 + 1, none⟩ (.int .i64 mk)) ∧ Kp F w ((wy.setCell ⟨g, i1 * 3, none⟩ (.int .i64 mk)).setCell ⟨g, i1 * 3 + 1, none⟩ (.int .i64 mk)))) := ⟨i1 + 1, _, by omega, by simp, HW1.out.1, (HJ.out.2.1.set (q := ⟨mk, q.d, q.ls, q.a, q.c⟩) (i := i1) (Nat.le_refl _) (HJ.out.2.1 q (List.mem_of_getElem? HJ.out.2.2.2.1))).set (by omega) (by have := HJ.out.2.1 q (List.mem_of_getElem? HJ.out.2.2.2.1); show q.ls.length ≤ _; omega), ⟨(HJ.out.2.2.1.1.trans HN1.out.2.1).trans HW1.out.2.1, (HJ.out.2.2.1.2.trans HN1.out.2.2).trans HW1.out.2.2⟩⟩
            go_wp2_with fail
            refine ⟨HG.out, ?_⟩
            simp [intOf]
            omega
          have hjj : (j : Int) < 20 := by omega
          obtain ⟨qa, hqa⟩ : ∃ x, q.a = x := ⟨_, rfl⟩
          obtain ⟨qc, hqc⟩ : ∃ x, q.c = x := ⟨_, rfl⟩
          obtain ⟨ql, hql⟩ : ∃ x, q.ls.length = x := ⟨_, rfl⟩
          have HLV : Hid (lv q = .slice qa ql qc ∧ q.ls.length = ql) := ⟨by unfold lv; rw [hqa, hqc, hql], hql⟩
          have HQL : Hid (ql ≤ 1000000000 + 20 * i1 + j) := by have h1 := HJ.out.2.1 q (List.mem_of_getElem? HJ.out.2.2.2.1); show _ ≤ _; omega
          clear hqa hqc hql
          have cq : wy.cell? ⟨g, i1 * 3 + 2, none⟩ = some (.slice qa ql qc) := by rw [← HLV.out.1]; exact HCQ.out wy (Below.refl _ _) 2 (by decide)
          go_wp2_with (refine list_ibu rfl _ rfl (m := z) rfl ?_)
          intro b53 w5 hb5 hl5 hbl5
          have HL5 : Hid (Lst EI w5 (some ⟨b53, 0, none⟩) [z] ∧ Below wy.heap.size wy w5) := ⟨hl5.out, hbl5.out⟩
          have HO5 : Hid (OwnL EI N w5 (.slice qa ql qc) q.ls) := by have h1 := ((HJ.out.1.ck i1 q HJ.out.2.2.2.1).1).bel hbl5.out; rw [HLV.out.1] at h1; exact h1
          have HNW : Hid (N ≤ w5.heap.size) := Nat.le_trans (Nat.le_trans HX.out.1 HJ.out.2.2.1.1.size) hbl5.out.size
          clear hb5 hl5 hbl5 cq
          go_wp2_with (at_builtin; refine list_appL EI rfl _ _ 30 rfl rfl N (.slice qa ql qc) q.ls [z] (some ⟨b53, 0, none⟩) 1 1 w5 (by have := HLV.out.2; have := HQL.out; have := HX.out; omega) rfl HO5.out rfl HL5.out.1 (fun h => by cases h) rfl HNW.out ?_)
          intro v6 w6 ho6 hg6 hn6
          obtain ⟨a6, c6, hv6⟩ := own_sl ho6.out
          subst hv6
          have HU : Hid (Pw N g m c (rs2.set i1 ⟨q.n, q.d, q.ls ++ [z], a6, c6⟩) F (w6.setCell ⟨g, i1 * 3 + 2, none⟩ (.slice a6 (q.ls ++ [z]).length c6)) ∧ Below N wy (w6.setCell ⟨g, i1 * 3 + 2, none⟩ (.slice a6 (q.ls ++ [z]).length c6)) ∧ Kp F wy (w6.setCell ⟨g, i1 * 3 + 2, none⟩ (.slice a6 (q.ls ++ [z]).length c6))) := by
            have h1 := HJ.out.1.upd HJ.out.2.2.2.1 HL5.out.2 ho6.out (by rw [HLV.out.1]; exact hg6.out) (by rw [HLV.out.1]; exact hn6.out)
            exact ⟨h1.1, h1.2.2, h1.2.2.size, h1.2.1⟩
          have hneg : (Value.slice qa ql qc).ownBlock ≠ some g := by have h1 := (HJ.out.1.ck i1 q HJ.out.2.2.2.1).2.1; rw [HLV.out.1] at h1; exact h1
          have hgl := HJ.out.1.ow.at0.2.2.1
          have hb6 : w6.heap[g]? = w5.heap[g]? := hg6.out.block g (Nat.lt_of_lt_of_le hgl HL5.out.2.size) (Ne.symm hneg)
          have c6g : w6.cell? ⟨g, i1 * 3 + 2, none⟩ = some (.slice qa ql qc) := (World.cell?_of_block (w := w5) hb6).trans (by rw [← HLV.out.1]; exact HCQ.out w5 HL5.out.2 2 (by decide))
          have f6g : w6.frozen? ⟨g, i1 * 3 + 2, none⟩ = false := (World.frozen?_of_block (w := w5) hb6).trans (HFQ.out w5 HL5.out.2 2)
          obtain ⟨n6, hn6'⟩ : ∃ y, (q.ls ++ [z]).length = y := ⟨_, rfl⟩
          have HN6 : Hid ((q.ls ++ [z]).length = n6) := hn6'
          rw [hn6'] at HU ⊢
          clear ho6 hg6 hn6 HO5 hneg hgl hb6 hn6'
          have HG : Hid (∃ (j2 : Nat) (rs3 : List Rc), j2 ≤ 20 ∧ Value.int .i64 (↑j + 1) = .int .i64 (j2 : Int) ∧ Pw N g m c rs3 F (w6.setCell ⟨g, i1 * 3 + 2, none⟩ (.slice a6 n6 c6)) ∧ Lb rs3 (1000000000 + 20 * i1 + j2) ∧ (Below N w (w6.setCell ⟨g, i1 * 3 + 2, none⟩ (.slice a6 n6 c6)) ∧ Kp F w (w6.setCell ⟨g, i1 * 3 + 2, none⟩ (.slice a6 n6 c6)))) := ⟨j + 1, _, by omega, by simp, HU.out.1, HJ.out.2.1.set (by omega) (by show (q.ls ++ [z]).length ≤ _; rw [HN6.out, ← HN6.out, List.length_append]; have := HLV.out.2; have := HQL.out; simp; omega), ⟨HJ.out.2.2.1.1.trans HU.out.2.1, HJ.out.2.2.1.2.trans HU.out.2.2⟩⟩
          go_wp2_with fail
          refine ⟨HG.out, ?_⟩
          simp [intOf]
          omega
    have hii : (i : Int) < (m : Int) := by omega
    obtain ⟨q, hq⟩ : ∃ y, rs[i]? = some y := ⟨rs[i]'(by have := HI.out.1.ln; omega), List.getElem?_eq_getElem _⟩
    have HQ : Hid (rs[i]? = some q) := hq
    have cq : wz.cell? ⟨g, i * 3 + 2, none⟩ = some (lv q) := by
      have h1 := HI.out.1.ow.at0.1 i (by have := HI.out.1.ln; omega) 2 (by decide)
      rw [(List.getElem?_eq_some_iff.1 hq).2] at h1
      exact h1
    obtain ⟨qa, hqa⟩ : ∃ x, q.a = x := ⟨_, rfl⟩
    obtain ⟨qc, hqc⟩ : ∃ x, q.c = x := ⟨_, rfl⟩
    obtain ⟨ql, hql⟩ : ∃ x, q.ls.length = x := ⟨_, rfl⟩
    have HLV : Hid (lv q = .slice qa ql qc ∧ q.ls.length = ql ∧ q.a = qa) := ⟨by unfold lv; rw [hqa, hqc, hql], hql, hqa⟩
    have HQL : Hid (ql ≤ 1000000000) := by have h1 := HI.out.2.1 q (List.mem_of_getElem? hq); show _ ≤ _; omega
    have hql0 : (ql : Int) ≤ 1000000000 := by have := HQL.out; omega
    rw [HLV.out.1] at cq
    clear hq hqa hqc hql
    go_wp2_with fail
    clear cq
    go_loopw [20, 5] (fun jv _ wr => ∃ (j : Nat) (rs2 : List Rc) (q2 : Rc), j ≤ ql ∧ jv = .int .i64 (j : Int) ∧ Pw N g m c rs2 F wr ∧ Lb rs2 1000000000 ∧ (Below N w wr ∧ Kp F w wr) ∧ rs2[i]? = some q2 ∧ lv q2 = .slice qa ql qc) (fun jv _ _ => ql - (intOf jv).toNat)
    case atStart => exact ⟨0, rs, q, Nat.zero_le _, rfl, HI.out.1, HI.out.2.1, HI.out.2.2.1, HQ.out, HLV.out.1⟩
    case round =>
      obtain ⟨j, rs2, q2, hj, rfl, hpw, hlb, hbl, hq2, hlv2⟩ := hrel
      obtain ⟨wy, hwy⟩ : ∃ y, wr = y := ⟨_, rfl⟩
      rw [hwy] at hpw hbl ⊢
      have HJ : Hid (Pw N g m c rs2 F wy ∧ Lb rs2 1000000000 ∧ (Below N w wy ∧ Kp F w wy) ∧ rs2[i]? = some q2 ∧ lv q2 = .slice qa ql qc) := ⟨hpw, hlb, hbl, hq2, hlv2⟩
      have hj0 : (j : Int) ≤ 1000000000 := by have := HQL.out; omega
      have hj2 : (0 : Int) ≤ (j : Int) := by omega
      clear hpw hlb hbl hwy hq2 hlv2
      by_cases hlt2 : j < ql
      case neg =>
        have hjj : ¬ (j : Int) < (ql : Int) := by omega
        go_wp2_with fail
        refine ⟨⟨i + 1, rs2, by omega, by simp, HJ.out.1, HJ.out.2.1, HJ.out.2.2.1⟩, ?_⟩
        simp [intOf]
        omega
      have hjj : (j : Int) < (ql : Int) := by omega
      have HA2 : Hid (∃ qb, qa = some ⟨qb, 0, none⟩ ∧ q2.a = some ⟨qb, 0, none⟩ ∧ q2.ls.length = ql) := by
        have h1 := HJ.out.2.2.2.2
        have h3 := (HJ.out.1.ck i q2 HJ.out.2.2.2.1).1
        unfold lv at h1
        injection h1 with h1 h2 h4
        rcases h3.row.2 with ⟨k1, k2⟩ | ⟨b, c', cur, k1, -⟩
        · exfalso; omega
        · unfold lv at k1
          injection k1 with k1 k2 k3
          exact ⟨b, by rw [← h1, k1], k1, h2⟩
      obtain ⟨qb, rfl, HA3⟩ := HA2.out
      have HA : Hid (q2.a = some ⟨qb, 0, none⟩ ∧ q2.ls.length = ql) := HA3
      have cy : wy.cell? ⟨g, i * 3 + 2, none⟩ = some (.slice (some ⟨qb, 0, none⟩) ql qc) := by
        have h1 := HJ.out.1.ow.at0.1 i (by have := HJ.out.1.ln; have := HI.out; omega) 2 (by decide)
        rw [(List.getElem?_eq_some_iff.1 HJ.out.2.2.2.1).2] at h1
        rw [← HJ.out.2.2.2.2]
        exact h1
      have HOQ : Hid (OwnL EI N wy (.slice (some ⟨qb, 0, none⟩) ql qc) q2.ls) := by have h1 := (HJ.out.1.ck i q2 HJ.out.2.2.2.1).1; rw [HJ.out.2.2.2.2] at h1; exact h1
      obtain ⟨y0, hy0⟩ : ∃ y, q2.ls[j]? = some y := ⟨q2.ls[j]'(by have := HA.out.2; omega), List.getElem?_eq_getElem _⟩
      have cz : wy.cell? ⟨qb, j, none⟩ = some (.int .i64 y0) := by
        have h1 := iz_cell HOQ.out.lst.1 (Below.refl _ wy) hy0
        rw [Nat.zero_add] at h1
        exact h1
      have fz : wy.frozen? ⟨qb, j, none⟩ = false := HOQ.out.at0.2.1 _
      have HG : Hid (∃ (j2 : Nat) (rs3 : List Rc) (q3 : Rc), j2 ≤ ql ∧ Value.int .i64 (↑j + 1) = .int .i64 (j2 : Int) ∧ Pw N g m c rs3 F (wy.setCell ⟨qb, j, none⟩ (.int .i64 mk)) ∧ Lb rs3 1000000000 ∧ (Below N w (wy.setCell ⟨qb, j, none⟩ (.int .i64 mk)) ∧ Kp F w (wy.setCell ⟨qb, j, none⟩ (.int .i64 mk))) ∧ rs3[i]? = some q3 ∧ lv q3 = .slice (some ⟨qb, 0, none⟩) ql qc) := by
        obtain ⟨h1, h2, h2k⟩ := HJ.out.1.link HJ.out.2.2.2.1 HA.out.1 (by have := HA.out.2; omega : j < q2.ls.length) mk
        refine ⟨j + 1, _, ⟨q2.n, q2.d, q2.ls.set j mk, q2.a, q2.c⟩, by omega, by simp, h1, HJ.out.2.1.set (Nat.le_refl _) (by show (q2.ls.set j mk).length ≤ _; rw [List.length_set]; have := HA.out.2; have := HQL.out; omega), ⟨HJ.out.2.2.1.1.trans h2, HJ.out.2.2.1.2.trans h2k⟩, List.getElem?_set_self (List.getElem?_eq_some_iff.1 HJ.out.2.2.2.1).1, ?_⟩
        rw [← HJ.out.2.2.2.2]
        unfold lv
        simp
      clear hy0 HA2 HA3
      go_wp2_with fail
      refine ⟨HG.out, ?_⟩
      simp [intOf]
      omega
end Go.Proofs.Ythhdpfgepjmgkaa.Dj
namespace Go.Proofs.Ythhdpfgepjmgkaa.Dj
open Go.ChangeShapes Go.WideShapes Go.ChangeAt Go.RowKit Go.Joins Go.Deep Go.Proofs.Ythhdpfgepjmgkaa.Ge
set_option linter.unusedVariables false
set_option linter.unusedSimpArgs false

set_option maxRecDepth 100000 in
theorem eq_ed (a : Ed) (W : World) : (Op.equal 26 (edV a) (edV a)).run Try.prog W = .ok true W := by
  have u3 := Try.underlying3
  have a3 := Try.isAgg3
  have z3 := Try.sizeOf3
  unfold Op.equal edV edL
  rw [show Op.maxDepth = 9999 + 1 from rfl, Op.equalIn]
  simp only [Sem.run_bind, run_underlying Try.underlying26, Result.andThen_ok, List.forIn_toArray, List.forIn_cons, List.forIn_nil]
  go_simp
theorem ed_neq_run {o : Oper} {ρ : Operand → Value} {W : World} (x y : Operand) (ho : o.op = .binOp .neq 26 x y 26) {e : Ed} (hx : ρ x = edV e) (hy : ρ y = edV e) : (execOp ρ o).run Try.prog W = .ok (.value (.bool false)) W := by
  have u3 := Try.underlying3
  have a3 := Try.isAgg3
  have z3 := Try.sizeOf3
  have u4 := Try.underlying26
  have h1 := fun W => eq_ed e W
  unfold execOp
  rw [ho]
  unfold edV at hx hy h1
  unfold edL at hx hy h1
  simp only [hx, hy]
  go_simp
theorem ed_set {N g n c i : Nat} {W : World} {xs : List Ed} (h : OwnL EE N W (.slice (some ⟨g, 0, none⟩) n c) xs) (hi : i < xs.length) (y : Ed) : OwnL EE N (W.setCells g (i * 4) (edL y)) (.slice (some ⟨g, 0, none⟩) n c) (xs.set i y) := by
  have h1 := h.setc (i := i) (j := 0) hi (by decide) (.int .i64 y.f) ⟨y.f, xs[i].t, xs[i].c, xs[i].l⟩ rfl
  have h2 := h1.setc (i := i) (j := 1) (by rw [List.length_set]; exact hi) (by decide) (.int .i64 y.t) ⟨y.f, y.t, xs[i].c, xs[i].l⟩ (by rw [List.getElem_set_self]; rfl)
  rw [List.set_set] at h2
  have h3 := h2.setc (i := i) (j := 2) (by rw [List.length_set]; exact hi) (by decide) (.int .i64 y.c) ⟨y.f, y.t, y.c, xs[i].l⟩ (by rw [List.getElem_set_self]; rfl)
  rw [List.set_set] at h3
  have h4 := h3.setc (i := i) (j := 3) (by rw [List.length_set]; exact hi) (by decide) (.int .i64 y.l) y (by rw [List.getElem_set_self]; rfl)
  rw [List.set_set] at h4
  exact h4
theorem ed_there {N g n c i : Nat} {W : World} {xs : List Ed} (h : OwnL EE N W (.slice (some ⟨g, 0, none⟩) n c) xs) (hi : i < xs.length) : W.there g (i * 4) 4 := by
  obtain ⟨h1, h2, -⟩ := h.at0
  intro j hj
  have hc : W.cell? ⟨g, i * 4 + j, none⟩ = (edL xs[i])[j]? := h1 i hi j hj
  rw [List.getElem?_eq_getElem (show j < (edL xs[i]).length from hj)] at hc
  exact ⟨by rw [hc]; rfl, h2 _⟩
theorem list_rowst {ops : Array Oper} {rest : List Oper} {o : Oper} {ac : Act} {Q : Exit → Act → World → Prop} {W : World} (T : Sk) (hgd : o.guard = none) (x y : Operand) (ho : o.op = .store T.t x y) {b k : Nat} {cs : List Value} (hx : ac.eval x = .pointer (some ⟨b, k, none⟩)) (hy : ac.eval y = .agg cs.toArray) (ht : W.there b k T.k) (hl : cs.length = T.k) (h1 : cs.all (·.oneCell') = true)
    (kk : ∀ W', Hid (W' = W.setCells b k cs) → wpList Try.prog ops Q rest (ac.put o.dst undef) W') : wpList Try.prog ops Q (o :: rest) ac W := by
  refine wpList_plain hgd fun K hK => ?_
  unfold Oper.wp
  rw [rowst_run T x y ho hx hy ht hl h1]
  exact hK _ _ (kk _ rfl)
/-- what others have -/
def Fo (A B n : Nat) : List Nat := (List.range n).filter (fun b => decide (b < A ∨ B ≤ b))
theorem fo_mem {A B n b : Nat} : b ∈ Fo A B n ↔ b < n ∧ (b < A ∨ B ≤ b) := by unfold Fo; simp
theorem Pw.over {N g m c : Nat} {rs : List Rc} {W3 W : World} (h : Pw N g m c rs [] W3) (hb : Below W3.heap.size W3 W) : Pw N g m c rs (Fo N W3.heap.size W.heap.size) W := by
  have h1 := h.bel hb
  refine ⟨h1.ow, h1.ln, fun i q hq => ⟨(h1.ck i q hq).1, (h1.ck i q hq).2.1, fun b hbf e => ?_⟩, h1.pw, fun b hbf => ⟨(fo_mem.1 hbf).1, ?_⟩⟩
  · have h2 := (h.ck i q hq).1.row.lt b e
    have h3 := (fo_mem.1 hbf).2
    omega
  · have h2 := h.ow.at0
    have h3 := (fo_mem.1 hbf).2
    omega
theorem Rd.low {w1 W' : World} {a : Option Addr} {m : Nat} {rs : List Rc} (h : Rd w1 a m rs) (hs : w1.heap.size ≤ W'.heap.size) (hk : ∀ b, b < w1.heap.size → W'.heap[b]? = w1.heap[b]?) : Rd W' a m rs :=
  ⟨h.l.keep hs (fun b _ _ hl => hk b hl), h.n, h.b, fun q hq => ⟨(h.ck q hq).1.keep hs (fun b _ _ hl => hk b hl), (h.ck q hq).2⟩⟩
theorem Pw.rd {N g m c : Nat} {rs : List Rc} {F : List Nat} {W W' : World} (h : Pw N g m c rs F W) (hm : m < 1000000000) (hl : ∀ q ∈ rs, q.ls.length < 1000000000) (hs : W.heap.size ≤ W'.heap.size) (hk : ∀ b, N ≤ b → b < W.heap.size → W'.heap[b]? = W.heap[b]?) : Rd W' (some ⟨g, 0, none⟩) m rs := by
  refine ⟨h.ow.lst.1.keep hs (fun b o e hlt => by cases e; exact hk g h.ow.at0.2.2.2 hlt), h.ln, hm, fun q hq => ⟨?_, hl q hq⟩⟩
  obtain ⟨j, hj⟩ := List.mem_iff_getElem?.1 hq
  have h1 := (h.ck j q hj).1
  exact (h1.lst.1).keep hs (fun b o e hlt => hk b (h1.row.lt b (by unfold lv; rw [e]; rfl)).1 hlt)
theorem told_congr {vs al : List Ed} (h : ∀ e, St vs e ↔ St al e) {r v d : Int} {ls : List Int} (ht : Told vs r v d ls) : Told al r v d ls := by
  have hp : ∀ p a b, isP al a p b → isP vs a p b := fun p a b => isP_congr (fun e => (h e).symm) p a b
  have hq : ∀ p a b, isP vs a p b → isP al a p b := fun p a b => isP_congr h p a b
  refine ⟨?_, ht.so, ht.rt, fun hn x => (ht.lk hn x).trans ?_⟩
  · obtain ⟨⟨p, h1, h2⟩, h3⟩ := ht.sh
    exact ⟨⟨p, hq p _ _ h1, h2⟩, fun p' h' => h3 p' (hp p' _ _ h')⟩
  · constructor
    · rintro ⟨e, p, h1, h2, h3, h4, h5⟩
      exact ⟨e, p, (h e).1 h1, h2, h3, hq p _ _ h4, h5⟩
    · rintro ⟨e, p, h1, h2, h3, h4, h5⟩
      exact ⟨e, p, (h e).2 h1, h2, h3, hp p _ _ h4, h5⟩
theorem Told.uniq {al : List Ed} {r v d d' : Int} {ls ls' : List Int} (h : Told al r v d ls) (k : Told al r v d' ls') : d = d' ∧ ls = ls' := by
  have hd := h.sh.uniq k.sh
  subst hd
  refine ⟨rfl, ?_⟩
  by_cases c : v = r
  · rw [h.rt c, k.rt c]
  · exact pw_uniq (fun a => Int.lt_irrefl a) (fun a b h1 h2 => by omega) ls ls' h.so k.so (fun x => (h.lk c x).trans (k.lk c x).symm)
theorem key_uniq {es vs al : List Ed} {root : Int} {f : Kw} {rs0 rs1 : List Rc} (hn : Net es vs root f) (hkn : ∀ v d ls, f v = some (d, ls) ↔ ∃ q ∈ rs1, q.n = v ∧ q.d = d ∧ q.ls = ls) (pw1 : rs1.Pairwise (fun p q => p.n < q.n)) (haa : Aa es al) (pw0 : rs0.Pairwise (fun p q => p.n < q.n)) (td0 : ∀ q ∈ rs0, Told al root q.n q.d q.ls) (re0 : ∀ v p, isP al root p v → ∃ q ∈ rs0, q.n = v) : rs1.map key = rs0.map key := by
  have hst := fun e => haa.net hn e
  have td1 : ∀ q ∈ rs1, Told al root q.n q.d q.ls := fun q hq => told_congr hst (hn.td q.n q.d q.ls ((hkn _ _ _).2 ⟨q, hq, rfl, rfl, rfl⟩))
  have re1 : ∀ v p, isP al root p v → ∃ q ∈ rs1, q.n = v := fun v p hp => by
    cases hf : f v with
    | none => exact absurd hf (hn.re v p (isP_congr (fun e => (hst e).symm) p _ _ hp))
    | some x => obtain ⟨q, hq, h1, -⟩ := (hkn v x.1 x.2).1 hf; exact ⟨q, hq, h1⟩
  have half : ∀ (xs ys : List Rc), (∀ q ∈ xs, Told al root q.n q.d q.ls) → (∀ q ∈ ys, Told al root q.n q.d q.ls) → (∀ v p, isP al root p v → ∃ q ∈ ys, q.n = v) → ∀ x, x ∈ xs.map key → x ∈ ys.map key := fun xs ys t1 t2 r2 x hx => by
    obtain ⟨q, hq, rfl⟩ := List.mem_map.1 hx
    obtain ⟨⟨p, hp, -⟩, -⟩ := (t1 q hq).sh
    obtain ⟨y, hy, e⟩ := r2 q.n p hp
    have h1 := t2 y hy
    rw [e] at h1
    obtain ⟨h2, h3⟩ := (t1 q hq).uniq h1
    exact List.mem_map.2 ⟨y, hy, by unfold key; rw [e, h2, h3]⟩
  refine pw_uniq (R := fun a b : Int × Int × List Int => a.1 < b.1) (fun a => Int.lt_irrefl _) (fun a b h1 h2 => by omega) _ _ (by rw [List.pairwise_map]; exact pw1) (by rw [List.pairwise_map]; exact pw0) (fun x => ⟨half rs1 rs0 td1 td0 re0 x, half rs0 rs1 td0 td1 re1 x⟩)
theorem key_ls {rs0 rs1 : List Rc} (h : rs1.map key = rs0.map key) {B : Nat} (hb : ∀ q ∈ rs0, q.ls.length ≤ B) : ∀ q ∈ rs1, q.ls.length ≤ B := fun q hq => by
  have h1 : key q ∈ rs0.map key := by rw [← h]; exact List.mem_map.2 ⟨q, hq, rfl⟩
  obtain ⟨y, hy, e⟩ := List.mem_map.1 h1
  have h2 : y.ls = q.ls := congrArg (fun x => x.2.2) e
  rw [← h2]
  exact hb y hy
/-- what Paths hands out, all of it -/
structure On (w : World) (es : List Ed) (root : Int) (rs0 : List Rc) (g m c : Nat) (rs : List Rc) (w' : World) : Prop where
  pw : Pw w.heap.size g m c rs [] w'
  ky : rs.map key = rs0.map key
  bel : Below w.heap.size w w'
def OnPost (w : World) (es : List Ed) (root : Int) (rs0 : List Rc) (e : Ending) (w' : World) : Prop := ∃ g m c rs, e = .returned (.slice (some ⟨g, 0, none⟩) m c) ∧ On w es root rs0 g m c rs w'
theorem pa_on {w w' : World} {es al : List Ed} {root : Int} {rs0 : List Rc} {e : Ending} (h : PaPost w es root e w') (haa : Aa es al) (pw0 : rs0.Pairwise (fun p q => p.n < q.n)) (td0 : ∀ q ∈ rs0, Told al root q.n q.d q.ls) (re0 : ∀ v p, isP al root p v → ∃ q ∈ rs0, q.n = v) : OnPost w es root rs0 e w' := by
  obtain ⟨vs, f, hnet, a, m, c, rs, rfl, hm, hl, -, hpw, hkn, hws, ha, hb1⟩ := h
  have hne : rs ≠ [] := fun c => by
    cases hf : f root with
    | none => exact absurd hf (hnet.re root [] rfl)
    | some x => obtain ⟨q, hq, -⟩ := (hkn root x.1 x.2).1 hf; rw [c] at hq; cases hq
  obtain ⟨g, rfl, h1⟩ := RhPost.pw (f := f) hm hne hl hws ha
  exact ⟨g, m, c, rs, rfl, h1, key_uniq hnet hkn hpw haa pw0 td0 re0, hb1⟩
set_option maxRecDepth 100000 in
set_option maxHeartbeats 64000000 in
theorem spaths_any (la : Option Addr) (n lc : Nat) (es : List Ed) (root : Int) (w : World) (hn : es.length = n) (hb : n < 99999990) (h : Lst EE w la es) (hz : la = none → n = 0 ∧ lc = 0) : Calls Try.prog 3 #[.slice la n lc, .int .i64 root] w (BlPost w true) := by
  have HX : Hid (Lst EE w la es ∧ es.length = n ∧ n < 99999990 ∧ (la = none → n = 0 ∧ lc = 0)) := ⟨h, hn, hb, hz⟩
  have hn0 : (n : Int) < 99999990 := by omega
  have hn2 : (0 : Int) ≤ (n : Int) := by omega
  clear h hn hb hz
  go_enter Try.func3, Try.ntmps3
  go_wp2_with fail
  refine (rpaths_any la n lc es root w HX.out.2.1 (by have := HX.out; omega) HX.out.1).mono ?_
  rintro e0 w1 ⟨a, m, c, rs0, al, rfl, hm, hl, hzz, hck, haa, hpw, htd, hre, hmn, hb1⟩
  have HW : Hid (Rd w1 a m rs0) := ⟨hl, hm, by have := HX.out; omega, fun q hq => ⟨(hck q hq).1, by have := (hck q hq).2; have := HX.out; omega⟩⟩
  have HD : Hid (Aa es al ∧ rs0.Pairwise (fun p q => p.n < q.n) ∧ (∀ q ∈ rs0, Told al root q.n q.d q.ls) ∧ (∀ v p, isP al root p v → ∃ q ∈ rs0, q.n = v) ∧ (∀ q ∈ rs0, q.ls.length ≤ n)) := ⟨haa, hpw, htd, hre, fun q hq => by have := (hck q hq).2; have := HX.out; omega⟩
  have HB1 : Hid (Below w.heap.size w w1) := hb1
  clear hm hl hzz hck haa hpw htd hre hmn hb1
  go_wp2_with (refine list_bnew EE rfl _ rfl rfl (by simp [execOp, go_sem]; rfl) ?_)
  intro b13 w2 hb13 ho13 hbl13
  have HB2 : Hid (Below w1.heap.size w1 w2 ∧ w1.heap.size ≤ b13) := ⟨hbl13.out, by rw [hb13.out]; exact Nat.le_refl _⟩
  have HO2 : Hid (OwnL EE w1.heap.size w2 (.slice (some ⟨b13, 0, none⟩) 0 0) []) := ho13.out
  have HE2 : Hid (Lst EE w2 la es) := HX.out.1.bel (HB1.out.trans (hbl13.out.mono HB1.out.size))
  clear hb13 ho13 hbl13
  go_wp2_with (at_builtin; refine list_appL EE rfl _ _ 22 rfl rfl w1.heap.size (.slice (some ⟨b13, 0, none⟩) 0 0) [] es la n lc w2 (by have := HX.out; simp; omega) rfl HO2.out rfl HE2.out HX.out.2.2.2 HX.out.2.1 HB2.out.1.size ?_)
  intro v3 w3 ho3 hg3 hn3
  obtain ⟨a3, c3, hv3⟩ := own_sl ho3.out
  have HO3 : Hid (OwnL EE w1.heap.size w3 (.slice a3 n c3) es) := by
    have h5 := ho3.out
    try simp only [List.nil_append] at h5
    rw [hv3] at h5
    try simp only [List.nil_append] at h5
    rw [HX.out.2.1] at h5
    exact h5
  have HB3 : Hid (Below w1.heap.size w1 w3) := HB2.out.1.trans ((Below.refl _ w2).grown hg3.out HB2.out.1.size (fun g e => by cases e; exact HB2.out.2))
  try simp only [List.nil_append] at hv3
  rw [HX.out.2.1] at hv3
  subst hv3
  clear ho3 hg3 hn3 HO2 HE2 HB2
  go_wp2_with (refine list_ebuild rfl _ rfl (m := ⟨-5, 0, 0, 0⟩) rfl ?_)
  intro b17 w4 hb17 hl17 hbl17
  have HL4 : Hid (Lst EE w4 (some ⟨b17, 0, none⟩) [⟨-5, 0, 0, 0⟩]) := hl17.out
  have HB4 : Hid (Below w1.heap.size w1 w4) := HB3.out.trans (hbl17.out.mono HB3.out.size)
  have HO4 : Hid (OwnL EE w1.heap.size w4 (.slice a3 n c3) es) := HO3.out.bel hbl17.out
  clear hb17 hl17 hbl17 HO3
  go_wp2_with (at_builtin; refine list_appL EE rfl _ _ 22 rfl rfl w1.heap.size (.slice a3 n c3) es [⟨-5, 0, 0, 0⟩] (some ⟨b17, 0, none⟩) 1 1 w4 (by have := HX.out; omega) rfl HO4.out rfl HL4.out (fun h => by cases h) rfl HB4.out.size ?_)
  intro v5 w5 ho5 hg5 hn5
  obtain ⟨a5, rc, hv5⟩ := own_sl ho5.out
  have hl5 : (es ++ [(⟨-5, 0, 0, 0⟩ : Ed)]).length = n + 1 := by rw [List.length_append]; have := HX.out.2.1; simp; omega
  rw [hl5] at hv5
  subst hv5
  have HB5 : Hid (Below w1.heap.size w1 w5) := HB4.out.trans ((Below.refl _ w4).grown hg5.out HB4.out.size (fun g e => (HO4.out.row.lt g e).1))
  have HRM : Hid (∃ rb, a5 = some ⟨rb, 0, none⟩) := by
    rcases ho5.out.row.2 with ⟨h1, h2⟩ | ⟨g, c', cur, h1, -⟩
    · exfalso; rw [hl5] at h2; omega
    · injection h1 with h1 _ _; exact ⟨g, h1⟩
  obtain ⟨rb, rfl⟩ := HRM.out
  have HO5 : Hid (OwnL EE w1.heap.size w5 (.slice (some ⟨rb, 0, none⟩) (n + 1) rc) (es ++ [⟨-5, 0, 0, 0⟩])) := ho5.out
  have HRC : Hid (n + 1 ≤ rc ∧ w1.heap.size ≤ rb ∧ rb < w5.heap.size) := ⟨HO5.out.addr.2.2.1, HO5.out.at0.2.2.2, HO5.out.at0.2.2.1⟩
  have HR5 : Hid (Lst EE w5 (some ⟨rb, 0, none⟩) es) := by have h1 := HO5.out.lst.1.take n; rw [List.take_left' HX.out.2.1] at h1; exact h1
  clear ho5 hg5 hn5 hl5 HO4 HL4 HRM
  go_wp2_with (refine list_sliceh EE rfl _ _ 22 rfl rfl (a := some ⟨rb, 0, none⟩) (n := n + 1) (c := rc) (h := n) (by rfl) (by rfl) (.inr ⟨rb, 0, rfl⟩) (by have := HRC.out.1; omega) ?_)
  refine (paths_any (some ⟨rb, 0, none⟩) n rc es root w5 HX.out.2.1 (by have := HX.out; omega) HR5.out).mono ?_
  rintro e0 w6 hpa
  obtain ⟨g1, m1, c1, rs1, rfl, hon⟩ := pa_on hpa HD.out.1 HD.out.2.1 HD.out.2.2.1 HD.out.2.2.2.1
  have HO1 : Hid (On w5 es root rs0 g1 m1 c1 rs1 w6) := hon
  clear hpa hon
  go_wp2_with (refine list_sliceh EE rfl _ _ 22 rfl rfl (a := some ⟨rb, 0, none⟩) (n := n + 1) (c := rc) (h := n) (by rfl) (by rfl) (.inr ⟨rb, 0, rfl⟩) (by have := HRC.out.1; omega) ?_)
  refine (paths_any (some ⟨rb, 0, none⟩) n rc es root w6 HX.out.2.1 (by have := HX.out; omega) (HR5.out.bel HO1.out.bel)).mono ?_
  rintro e0 w7 hpa
  obtain ⟨g2, m2, c2, rs2, rfl, hon⟩ := pa_on hpa HD.out.1 HD.out.2.1 HD.out.2.2.1 HD.out.2.2.2.1
  have HO2 : Hid (On w6 es root rs0 g2 m2 c2 rs2 w7) := hon
  clear hpa hon
  have HMM : Hid (m1 = m ∧ m2 = m ∧ m < 1000000000 ∧ (∀ q ∈ rs1, q.ls.length < 1000000000) ∧ (∀ q ∈ rs2, q.ls.length < 1000000000)) := by
    have h1 := congrArg List.length HO1.out.ky
    have h2 := congrArg List.length HO2.out.ky
    rw [List.length_map, List.length_map, HO1.out.pw.ln, HW.out.n] at h1
    rw [List.length_map, List.length_map, HO2.out.pw.ln, HW.out.n] at h2
    exact ⟨h1, h2, HW.out.b, fun q hq => by have := key_ls HO1.out.ky HD.out.2.2.2.2 q hq; have := HX.out; omega, fun q hq => by have := key_ls HO2.out.ky HD.out.2.2.2.2 q hq; have := HX.out; omega⟩
  have HB57 : Hid (Below w5.heap.size w5 w7) := HO1.out.bel.trans (HO2.out.bel.mono HO1.out.bel.size)
  have HB17 : Hid (Below w1.heap.size w1 w7) := HB5.out.trans (HB57.out.mono HB5.out.size)
  have HW7 : Hid (∀ W, Below w7.heap.size w7 W → Rd W a m rs0) := fun W hW => HW.out.bel (HB17.out.trans (hW.mono HB17.out.size))
  have HR1 : Hid (∀ W, Below w7.heap.size w7 W → Rd W (some ⟨g1, 0, none⟩) m1 rs1) := fun W hW => HO1.out.pw.rd (by have := HMM.out; omega) HMM.out.2.2.2.1 (Nat.le_trans HO2.out.bel.size hW.size) (fun b _ hl => (hW.block b (Nat.lt_of_lt_of_le hl HO2.out.bel.size)).trans (HO2.out.bel.block b hl))
  have HR2 : Hid (∀ W, Below w7.heap.size w7 W → Rd W (some ⟨g2, 0, none⟩) m2 rs2) := fun W hW => HO2.out.pw.rd (by have := HMM.out; omega) HMM.out.2.2.2.2 hW.size (fun b _ hl => hW.block b hl)
  go_wp2_with fail
  refine (lsame_any (some ⟨g1, 0, none⟩) m1 c1 rs1 a m c rs0 w7 (HR1.out w7 (Below.refl _ _)) (HW7.out w7 (Below.refl _ _)) HO1.out.ky).mono ?_
  rintro e0 w8 ⟨rfl, hb8⟩
  have HB8 : Hid (Below w7.heap.size w7 w8) := hb8
  clear hb8
  go_wp2_with fail
  refine (lsame_any (some ⟨g2, 0, none⟩) m2 c2 rs2 a m c rs0 w8 (HR2.out w8 HB8.out) (HW7.out w8 HB8.out) HO2.out.ky).mono ?_
  rintro e0 w9 ⟨rfl, hb9⟩
  have HB9 : Hid (Below w7.heap.size w7 w9) := HB8.out.trans (hb9.mono HB8.out.size)
  clear hb9
  obtain ⟨F, hF⟩ : ∃ y, Fo w5.heap.size w6.heap.size w9.heap.size = y := ⟨_, rfl⟩
  have HF : Hid (∀ b, b ∈ F ↔ b < w9.heap.size ∧ (b < w5.heap.size ∨ w6.heap.size ≤ b)) := fun b => by rw [← hF]; exact fo_mem
  have HP9 : Hid (Pw w5.heap.size g1 m1 c1 rs1 F w9) := by rw [← hF]; exact HO1.out.pw.over (HO2.out.bel.trans (HB9.out.mono HO2.out.bel.size))
  have HB59 : Hid (Below w5.heap.size w5 w9) := HB57.out.trans (HB9.out.mono HB57.out.size)
  have HB19 : Hid (Below w1.heap.size w1 w9) := HB17.out.trans (HB9.out.mono HB17.out.size)
  have HKW : Hid (∀ W, Kp F w9 W → Rd W a m rs0) := fun W hW => HW.out.low (Nat.le_trans HB19.out.size hW.size) (fun b hl => (hW.blk b ((HF.out b).2 ⟨Nat.lt_of_lt_of_le hl HB19.out.size, .inl (Nat.lt_of_lt_of_le hl HB5.out.size)⟩)).trans (HB19.out.block b hl))
  have HK2 : Hid (∀ W, Kp F w9 W → Rd W (some ⟨g2, 0, none⟩) m2 rs2) := fun W hW => HO2.out.pw.rd (by have := HMM.out; omega) HMM.out.2.2.2.2 (Nat.le_trans HB9.out.size hW.size) (fun b h1 hl => (hW.blk b ((HF.out b).2 ⟨Nat.lt_of_lt_of_le hl HB9.out.size, .inr h1⟩)).trans (HB9.out.block b hl))
  clear hF
  go_wp2_with fail
  refine (sapart_any w5.heap.size g1 m1 c1 rs1 F a m c rs0 w9 HP9.out HB59.out.size (by have := HMM.out; omega) HMM.out.2.2.2.1 HKW.out HO1.out.ky).mono ?_
  rintro e0 w10 ⟨rfl, hp10, hb10, hk10⟩
  have HP10 : Hid (Pw w5.heap.size g1 m1 c1 rs1 F w10 ∧ Below w5.heap.size w9 w10 ∧ Kp F w9 w10) := ⟨hp10, hb10, hk10⟩
  clear hp10 hb10 hk10
  go_wp2_with fail
  refine (smark_any w5.heap.size g1 m1 c1 rs1 F 1001 w10 HP10.out.1 (Nat.le_trans HB59.out.size HP10.out.2.1.size) (by have := HMM.out; omega) (fun q hq => Nat.le_of_lt (HMM.out.2.2.2.1 q hq)) (by decide)).mono ?_
  rintro e0 w11 ⟨rfl, hb11, hk11⟩
  have HK11 : Hid (Kp F w9 w11 ∧ Below w5.heap.size w5 w11) := ⟨HP10.out.2.2.trans hk11, HB59.out.trans (HP10.out.2.1.trans hb11)⟩
  clear hb11 hk11
  have HRO : Hid (OwnL EE w1.heap.size w11 (.slice (some ⟨rb, 0, none⟩) (n + 1) rc) (es ++ [⟨-5, 0, 0, 0⟩])) := HO5.out.blk (fun x e => by cases e; exact HK11.out.2.block rb HRC.out.2.2)
  have HBw : Hid (Below w.heap.size w w11) := HB1.out.trans ((HB5.out.trans (HK11.out.2.mono HB5.out.size)).mono HB1.out.size)
  have HE11 : Hid (Lst EE w11 la es) := HX.out.1.bel HBw.out
  have HRW : Hid (w.heap.size ≤ rb) := Nat.le_trans HB1.out.size HRC.out.2.1
  go_wp2_with fail
  go_loopw [51, 9] (fun iv _ wr => ∃ (i : Nat) (xs : List Ed), i ≤ n ∧ iv = .int .i64 (i : Int) ∧ OwnL EE w1.heap.size wr (.slice (some ⟨rb, 0, none⟩) (n + 1) rc) xs ∧ xs.length = n + 1 ∧ (∀ j, i ≤ j → xs[j]? = (es ++ [(⟨-5, 0, 0, 0⟩ : Ed)])[j]?) ∧ Ko w11 rb wr) (fun iv _ _ => n - (intOf iv).toNat)
  case atStart => exact ⟨0, _, Nat.zero_le _, rfl, HRO.out, by rw [List.length_append]; have := HX.out.2.1; simp; omega, fun j _ => rfl, Ko.refl _ _⟩
  case round =>
    obtain ⟨i, xs, hin, rfl, how, hxl, hxs, hko⟩ := hrel
    obtain ⟨wz, hwz⟩ : ∃ y, wr = y := ⟨_, rfl⟩
    rw [hwz] at how hko ⊢
    have HI : Hid (OwnL EE w1.heap.size wz (.slice (some ⟨rb, 0, none⟩) (n + 1) rc) xs ∧ xs.length = n + 1 ∧ (∀ j, i ≤ j → xs[j]? = (es ++ [(⟨-5, 0, 0, 0⟩ : Ed)])[j]?) ∧ Ko w11 rb wz) := ⟨how, hxl, hxs, hko⟩
    have hi0 : (i : Int) < 99999990 := by omega
    have hi2 : (0 : Int) ≤ (i : Int) := by omega
    clear how hxl hxs hko hwz
    by_cases hlt : i < n
    case neg =>
      have hii : ¬ (i : Int) < (n : Int) := by omega
      have HZ : Hid (Rd wz (some ⟨g2, 0, none⟩) m2 rs2 ∧ Rd wz a m rs0) := by
        have hs : w11.heap.size ≤ wz.heap.size := by rw [HI.out.2.2.2.size]; exact Nat.le_refl _
        have hR2 := HK2.out w11 HK11.out.1
        refine ⟨?_, ?_⟩
        · exact HO2.out.pw.rd (by have := HMM.out; omega) HMM.out.2.2.2.2 (Nat.le_trans (Nat.le_trans HB9.out.size HK11.out.1.size) hs) (fun b h1 hl => (HI.out.2.2.2.block b (by have := HRC.out.2.2; have := HO1.out.bel.size; omega)).trans ((HK11.out.1.blk b ((HF.out b).2 ⟨Nat.lt_of_lt_of_le hl HB9.out.size, .inr h1⟩)).trans (HB9.out.block b hl)))
        · exact HW.out.low (Nat.le_trans (Nat.le_trans HB19.out.size HK11.out.1.size) hs) (fun b hl => (HI.out.2.2.2.block b (by have := HRC.out.2.1; omega)).trans ((HK11.out.1.blk b ((HF.out b).2 ⟨Nat.lt_of_lt_of_le hl HB19.out.size, .inl (Nat.lt_of_lt_of_le hl HB5.out.size)⟩)).trans (HB19.out.block b hl)))
      go_wp2_with fail
      refine (lsame_any (some ⟨g2, 0, none⟩) m2 c2 rs2 a m c rs0 wz HZ.out.1 HZ.out.2 HO2.out.ky).mono ?_
      rintro e0 w12 ⟨rfl, hb12⟩
      have HE : Hid (BlPost w true (.returned (.bool true)) w12) := ⟨rfl, (HBw.out.trans (HI.out.2.2.2.below HRW.out)).trans (hb12.mono (Nat.le_trans HBw.out.size (by rw [← HI.out.2.2.2.size]; exact Nat.le_refl _)))⟩
      have cn : w12.cell? ⟨rb, n * 4, none⟩ = some (.int .i64 (-5)) := by
        have h1 := (HI.out.1.bel hb12).at0.1 n (by have := HI.out.2.1; omega) 0 (by decide)
        have h2 := HI.out.2.2.1 n (by omega)
        rw [List.getElem?_append_right (by have := HX.out.2.1; omega), show n - es.length = 0 by have := HX.out.2.1; omega] at h2
        have h3 := (List.getElem?_eq_some_iff.1 h2).2
        rw [h3] at h1
        exact h1
      have hnn : (n : Int) < (n : Int) + 1 := by omega
      clear hb12
      go_wp2_with fail
      go_ret
      exact HE.out
    have hii : (i : Int) < (n : Int) := by omega
    have hii1 : (i : Int) < (n : Int) + 1 := by omega
    obtain ⟨e, he⟩ : ∃ y, es[i]? = some y := ⟨es[i]'(by have := HX.out.2.1; omega), List.getElem?_eq_getElem _⟩
    have HEi : Hid (es[i]? = some e ∧ xs[i]? = some e ∧ i < xs.length) := ⟨he, by rw [HI.out.2.2.1 i (Nat.le_refl _), List.getElem?_append_left (by have := HX.out.2.1; omega)]; exact he, by have := HI.out.2.1; omega⟩
    obtain ⟨lb, lo, rfl, hlb, -⟩ := HE11.out.cells i (by have := HX.out.2.1; omega)
    have HLB : Hid (lb < w.heap.size) := by obtain ⟨b, o, e2, h1, -⟩ := HX.out.1.cells i (by have := HX.out.2.1; omega); cases e2; exact h1
    clear he hlb
    obtain ⟨wd, hwd⟩ : ∃ y, wz.drew = y := ⟨_, rfl⟩
    have HWD : Hid (wz.drew = wd) := hwd
    have HOD : Hid (OwnL EE w1.heap.size wd (.slice (some ⟨rb, 0, none⟩) (n + 1) rc) xs ∧ Ko w11 rb wd) := by rw [← hwd]; exact ⟨HI.out.1.bel (drew_bel wz), HI.out.2.2.2.trans ⟨(drew_bel wz).mono (Nat.zero_le _), rfl, fun _ _ => rfl⟩⟩
    clear hwd
    have HC1 : Hid (∀ q, q < 4 → wd.cell? ⟨rb, i * 4 + q, none⟩ = (edL e)[q]?) := fun q hq => by
      have h1 := HOD.out.1.at0.1 i HEi.out.2.2 q hq
      rw [(List.getElem?_eq_some_iff.1 HEi.out.2.1).2] at h1
      exact h1
    have HC2 : Hid (∀ q, q < 4 → wd.cell? ⟨lb, lo + i * 4 + q, none⟩ = (edL e)[q]?) := fun q hq => (World.cell?_of_block (w := w11) (HOD.out.2.block lb (by have := HLB.out; have := HRW.out; omega))).trans (ed_cells HE11.out (Below.refl _ _) HEi.out.1 q hq)
    go_upto_region 11 with fail
    refine wp_region_held_drew (S := fun W => W = wd) (by kernel_rfl) HWD.out (fun hHeld => ?_)
    rw [HWD.out] at hHeld ⊢
    refine wpAnyH_take (i := 0) (v := .slice (some ⟨rb, 0, none⟩) (n + 1) rc) rfl (by kernel_rfl) (by kernel_rfl) (by kernel_rfl) (fun _ _ _ h => h) (Or.inl ⟨by rfl, ?_⟩) (by assumption) ?_
    case refine_1 => intro W hSw; go_simp; try rfl
    try simp only [Act.put, List.getElem_toArray, List.getElem_cons_zero, List.getElem_cons_succ, List.setIfInBounds_toArray, List.set_cons_zero, List.set_cons_succ]
    refine wpAnyH_take (i := 1) (v := .int .i64 (i : Int)) rfl (by kernel_rfl) (by kernel_rfl) (by kernel_rfl) (fun _ _ _ h => h) (Or.inl ⟨by rfl, ?_⟩) (by assumption) ?_
    case refine_1 => intro W hSw; go_simp; try rfl
    try simp only [Act.put, List.getElem_toArray, List.getElem_cons_zero, List.getElem_cons_succ, List.setIfInBounds_toArray, List.set_cons_zero, List.set_cons_succ]
    refine wpAnyH_take (i := 2) (v := .pointer (some ⟨rb, i * 4, none⟩)) rfl (by kernel_rfl) (by kernel_rfl) (by kernel_rfl) (fun _ _ _ h => h) (Or.inl ⟨by rfl, ?_⟩) (by assumption) ?_
    case refine_1 => intro W hSw; go_simp; try rfl
    try simp only [Act.put, List.getElem_toArray, List.getElem_cons_zero, List.getElem_cons_succ, List.setIfInBounds_toArray, List.set_cons_zero, List.set_cons_succ]
    refine wpAnyH_take (i := 3) (v := .agg (edL e).toArray) rfl (by kernel_rfl) (by kernel_rfl) (by kernel_rfl) (fun _ _ _ h => h) (Or.inl ⟨by rfl, (fun W hSw => by rw [hSw]; exact sat_run EdK (.tmp 56) rfl (b := rb) (k := i * 4) rfl HC1.out rfl)⟩) (by assumption) ?_
    try simp only [Act.put, List.getElem_toArray, List.getElem_cons_zero, List.getElem_cons_succ, List.setIfInBounds_toArray, List.set_cons_zero, List.set_cons_succ]
    refine wpAnyH_take (i := 4) (v := .slice (some ⟨lb, lo, none⟩) n lc) rfl (by kernel_rfl) (by kernel_rfl) (by kernel_rfl) (fun _ _ _ h => h) (Or.inl ⟨by rfl, ?_⟩) (by assumption) ?_
    case refine_1 => intro W hSw; go_simp; try rfl
    try simp only [Act.put, List.getElem_toArray, List.getElem_cons_zero, List.getElem_cons_succ, List.setIfInBounds_toArray, List.set_cons_zero, List.set_cons_succ]
    refine wpAnyH_take (i := 5) (v := .int .i64 (i : Int)) rfl (by kernel_rfl) (by kernel_rfl) (by kernel_rfl) (fun _ _ _ h => h) (Or.inl ⟨by rfl, ?_⟩) (by assumption) ?_
    case refine_1 => intro W hSw; go_simp; try rfl
    try simp only [Act.put, List.getElem_toArray, List.getElem_cons_zero, List.getElem_cons_succ, List.setIfInBounds_toArray, List.set_cons_zero, List.set_cons_succ]
    refine wpAnyH_take (i := 6) (v := .pointer (some ⟨lb, lo + i * 4, none⟩)) rfl (by kernel_rfl) (by kernel_rfl) (by kernel_rfl) (fun _ _ _ h => h) (Or.inl ⟨by rfl, ?_⟩) (by assumption) ?_
    case refine_1 => intro W hSw; go_simp; try rfl
    try simp only [Act.put, List.getElem_toArray, List.getElem_cons_zero, List.getElem_cons_succ, List.setIfInBounds_toArray, List.set_cons_zero, List.set_cons_succ]
    refine wpAnyH_take (i := 7) (v := .agg (edL e).toArray) rfl (by kernel_rfl) (by kernel_rfl) (by kernel_rfl) (fun _ _ _ h => h) (Or.inl ⟨by rfl, (fun W hSw => by rw [hSw]; exact sat_run EdK (.tmp 60) rfl (b := lb) (k := lo + i * 4) rfl HC2.out rfl)⟩) (by assumption) ?_
    try simp only [Act.put, List.getElem_toArray, List.getElem_cons_zero, List.getElem_cons_succ, List.setIfInBounds_toArray, List.set_cons_zero, List.set_cons_succ]
    refine wpAnyH_take (i := 8) (v := .bool false) rfl (by kernel_rfl) (by kernel_rfl) (by kernel_rfl) (fun _ _ _ h => h) (Or.inl ⟨by rfl, (fun W hSw => ed_neq_run (.tmp 57) (.tmp 61) rfl (e := e) rfl rfl)⟩) (by assumption) ?_
    try simp only [Act.put, List.getElem_toArray, List.getElem_cons_zero, List.getElem_cons_succ, List.setIfInBounds_toArray, List.set_cons_zero, List.set_cons_succ]
    refine wpAnyH_done (by kernel_rfl) ?_ _
    clear hHeld
    have HTH : Hid (wd.there rb (i * 4) EdK.k) := ed_there HOD.out.1 HEi.out.2.2
    go_wp2_with (refine list_rowst EdK rfl _ _ rfl (b := rb) (k := i * 4) (cs := edL ⟨1, 2, 0, 0⟩) rfl rfl HTH.out rfl rfl ?_)
    intro we hwe
    have HG : Hid (∃ (i2 : Nat) (xs2 : List Ed), i2 ≤ n ∧ Value.int .i64 (↑i + 1) = .int .i64 (i2 : Int) ∧ OwnL EE w1.heap.size we (.slice (some ⟨rb, 0, none⟩) (n + 1) rc) xs2 ∧ xs2.length = n + 1 ∧ (∀ j, i2 ≤ j → xs2[j]? = (es ++ [(⟨-5, 0, 0, 0⟩ : Ed)])[j]?) ∧ Ko w11 rb we) := by
      rw [hwe.out]
      refine ⟨i + 1, xs.set i ⟨1, 2, 0, 0⟩, by omega, by simp, ed_set HOD.out.1 HEi.out.2.2 ⟨1, 2, 0, 0⟩, by rw [List.length_set]; exact HI.out.2.1, fun j hj => ?_, HOD.out.2.trans (ko_cells rb _ _ _)⟩
      rw [List.getElem?_set_ne (by omega)]
      exact HI.out.2.2.1 j (by omega)
    clear hwe
    go_wp2_with fail
    refine ⟨HG.out, ?_⟩
    simp [intOf]
    omega
end Go.Proofs.Ythhdpfgepjmgkaa.Dj
