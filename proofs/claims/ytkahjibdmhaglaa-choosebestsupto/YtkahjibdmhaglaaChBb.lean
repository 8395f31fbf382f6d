/- ChooseTurns, its first half: the offers numbered, and copied. -/
import Derived.Test.YtkahjibdmhaglaaChAa
import Derived.Test.YtkahjibdmhaglaaChV
namespace Go.Proofs.Ytkahjibdmhaglaa.Ch
open Go.ChangeShapes Go.WideShapes Go.ChangeAt Go.RowKit Go.Joins Go.Deep Go.Proofs.Ytkahjibdmhaglaa.Ge
set_option linter.unusedVariables false
set_option linter.unusedSimpArgs false

/-- the offers, the first i of them numbered -/
def pe (xs : List (Of × Oa)) (i k : Nat) : Of := if k < i then { atO xs k with peer := (k : Int) } else atO xs k
structure T1I (w : World) (xs : List (Of × Oa)) (n g : Nat) (iv : Value) (W : World) : Prop where
  at_ : ∃ (i : Nat) (ys : List (Of × Oa)), i ≤ n ∧ iv = .int .i64 (i : Int) ∧ ys.length = n ∧ (∀ k, k < n → atO ys k = pe xs i k) ∧ Cq w.heap.size g W ys
  bel : Below w.heap.size w W
theorem at_of {ys : List (Of × Oa)} {k : Nat} (h : k < ys.length) : atO ys k = ys[k].1 := by
  unfold atO
  rw [List.getElem?_eq_getElem h]
  rfl
theorem atO_map {xs ys : List (Of × Oa)} (h : ys.map Prod.fst = xs.map Prod.fst) (k : Nat) : atO ys k = atO xs k := by
  have h1 : (ys.map Prod.fst)[k]? = (xs.map Prod.fst)[k]? := by rw [h]
  rw [List.getElem?_map, List.getElem?_map] at h1
  unfold atO
  rcases h2 : ys[k]? with _ | a <;> rcases h3 : xs[k]? with _ | b <;> rw [h2, h3] at h1 <;> simp_all
theorem Cq.cell {N g i : Nat} {W : World} {ys : List (Of × Oa)} (h : Cq N g W ys) (hi : i < ys.length) : ∃ u, W.cell? ⟨g, i * 13 + 10, none⟩ = some u ∧ W.frozen? ⟨g, i * 13 + 10, none⟩ = false := by
  have h9 := h.row.th i hi 10 (by decide)
  obtain ⟨u, hu⟩ := Option.isSome_iff_exists.1 h9.1
  exact ⟨u, hu, h9.2⟩
theorem pe_step {xs ys : List (Of × Oa)} {n i : Nat} (hl : ys.length = n) (hi : i < n) (h : ∀ k, k < n → atO ys k = pe xs i k) : ∀ k, k < n → atO (ys.set i ({ (ys[i]'(by omega)).1 with peer := (i : Int) }, (ys[i]'(by omega)).2)) k = pe xs (i + 1) k := fun k hk => by
  have e0 : (ys[i]'(by omega)).1 = atO xs i := by
    rw [← at_of (by omega), h i hi]
    unfold pe
    rw [if_neg (by omega)]
  have hl2 : k < (ys.set i ({ (ys[i]'(by omega)).1 with peer := (i : Int) }, (ys[i]'(by omega)).2)).length := by rw [List.length_set]; omega
  rw [at_of hl2]
  by_cases e : k = i
  · subst e
    rw [List.getElem_set_self]
    unfold pe
    rw [if_pos (by omega), e0]
  · rw [List.getElem_set_ne (Ne.symm e), ← at_of (by omega), h k hk]
    unfold pe
    by_cases h1 : k < i
    · rw [if_pos h1, if_pos (by omega)]
    · rw [if_neg h1, if_neg (by omega)]
theorem RowO.cells {g i : Nat} {W : World} {ys : List (Of × Oa)} (h : RowO g ys W) (hi : i < ys.length) (k : Nat) (hk : k < OfK.k) : W.cell? ⟨g, i * 13 + k, none⟩ = (ofL ys[i].1 ys[i].2)[k]? := by
  have hk2 : k < (ofL ys[i].1 ys[i].2).length := hk
  rw [List.getElem?_eq_getElem hk2]
  exact h.rg i hi k _ (List.getElem?_eq_getElem hk2)
theorem rowst_run {o : Oper} {ρ : Operand → Value} {W : World} (T : Sk) (x y : Operand) (ho : o.op = .store T.t x y) {b k : Nat} {cs : List Value} (hx : ρ x = .pointer (some ⟨b, k, none⟩)) (hy : ρ y = .agg cs.toArray) (ht : W.there b k T.k) (hl : cs.length = T.k) (h1 : cs.all (·.oneCell') = true) : (execOp ρ o).run Try.prog W = .ok .skip (W.setCells b k cs) := by
  unfold execOp
  have ha : cs.toArray.all (·.oneCell') = true := by simpa using h1
  have hs : cs.toArray.size = T.k := by simpa using hl
  have h5 := run_storeVar_mid (P := Try.prog) W b k T.t cs.toArray (by rw [hs]; exact ht) (by rw [T.hi, hs]) ha
  simp only [ho, hx, hy, Instr.storeAt, Instr.sureAddr, Sem.run_bind, Sem.run_pure, Result.andThen_ok, h5]
theorem wr64 (n : Int) (h1 : -9223372036854775808 ≤ n) (h2 : n < 9223372036854775808) : IntKind.i64.wrap n = n := by
  simp [IntKind.wrap, IntKind.bits, IntKind.signed]
  omega
theorem ofs_of2 {w : World} {la : Option Addr} {xs : List (Of × Oa)} {B : Nat} (h : Gm.Lst EO w la xs) (hok : ∀ q ∈ xs, OfOk w B q.1 q.2) : Ofs w.heap.size w la xs := ⟨fun W hW => ⟨h.bel hW, fun q hq => (hok q hq).kp.bel hW⟩⟩
structure T2I (w : World) (ys : List (Of × Oa)) (n m N g : Nat) (iv : Value) (W : World) : Prop where
  at_ : ∃ (j : Nat) (zs : List (Of × Oa)), j ≤ m ∧ iv = .int .i64 (j : Int) ∧ zs.length = n ∧ (zs.map Prod.fst).Perm (ys.map Prod.fst) ∧ Cq N g W zs
  bel : Below N w W
theorem swap_t2 {w W : World} {ys zs : List (Of × Oa)} {n m N g p q j : Nat} (h : Cq N g W zs) (hb : Below N w W) (hp : p < zs.length) (hq : q < zs.length) (hpm : (zs.map Prod.fst).Perm (ys.map Prod.fst)) (hg : N ≤ g) (hj : j + 2 ≤ m) (hl : zs.length = n) (hN : w.heap.size = N) :
    T2I w ys n m N g (.int .i64 ((j + 2 : Nat) : Int)) ((W.setCells g (p * 13) (ofL zs[q].1 zs[q].2)).setCells g (q * 13) (ofL zs[p].1 zs[p].2)) := by
  have mp := List.getElem_mem hp
  have mq := List.getElem_mem hq
  have h1 : Cq N g (W.setCells g (p * 13) (ofL zs[q].1 zs[q].2)) (zs.set p zs[q]) := h.set hp (h.ok _ mq) (h.ap _ mq) (h.bd _ mq)
  have hk1 := ko_cells g (ofL zs[q].1 zs[q].2) (p * 13) W
  have ho : OcOk N (W.setCells g (p * 13) (ofL zs[q].1 zs[q].2)) zs[p].1 zs[p].2 := (h.ok _ mp).blk (fun b e => hk1.block b (fun e2 => h.ap _ mp (e2 ▸ e)))
  have h2 := h1.set (i := q) (by rw [List.length_set]; exact hq) ho (h.ap _ mp) (h.bd _ mp)
  refine ⟨⟨j + 2, _, hj, rfl, by rw [List.length_set, List.length_set]; exact hl, ?_, h2⟩, ?_⟩
  · exact ((perm_swap zs hp hq).map Prod.fst).trans hpm
  · exact hb.trans ((hk1.below hg).trans ((ko_cells g _ _ _).below hg))
set_option maxRecDepth 100000 in
set_option maxHeartbeats 16000000 in
theorem turns_any (la : Option Addr) (n lc : Nat) (xs : List (Of × Oa)) (hxn : xs.length = n) (ta : Option Addr) (m tc : Nat) (ts : List Int) (htm : ts.length = m) (w : World) (hx : Gm.Lst EO w la xs) (hok : ∀ q ∈ xs, OfOk w 1048576 q.1 q.2) (ht : Lst EI w ta ts) (hin : ∀ t ∈ ts, -9223372036854775808 ≤ t ∧ t < 9223372036854775808) :
    Calls Try.prog 4 #[.slice la n lc, .slice ta m tc] w fun e w' => e = .returned (.bool true) ∧ Below w.heap.size w w' := by
  have HX : Hid (Gm.Lst EO w la xs) := hx
  have HXN : Hid (xs.length = n) := hxn
  have HOK : Hid (∀ q ∈ xs, OfOk w 1048576 q.1 q.2) := hok
  have HT : Hid (Lst EI w ta ts) := ht
  have HTM : Hid (ts.length = m) := htm
  have HIN : Hid (∀ t ∈ ts, -9223372036854775808 ≤ t ∧ t < 9223372036854775808) := hin
  have hsm : n ≤ 9223372036854775807 := by rw [← hxn]; exact hx.small
  have hsm2 : m ≤ 9223372036854775807 := by rw [← htm]; exact ht.small
  clear hx hxn hok ht htm hin
  go_enter Try.func4, Try.ntmps4
  by_cases hn : 200 < n
  case pos =>
    have hni : (200 : Int) < (n : Int) := by omega
    go_wp2_with fail
    go_ret
    exact ⟨rfl, Below.refl _ _⟩
  have hni : ¬ (200 : Int) < (n : Int) := by omega
  by_cases hm : 1000 < m
  case pos =>
    have hmi : (1000 : Int) < (m : Int) := by omega
    go_wp2_with fail
    go_ret
    exact ⟨rfl, Below.refl _ _⟩
  have hmi : ¬ (1000 : Int) < (m : Int) := by omega
  go_wp2_with fail
  refine (ocs_any la n lc xs HXN.out (by omega) w HX.out HOK.out).mono ?_
  rintro e w1 ⟨v1, xs1, rfl, hm1, hc1, hb1, hz1⟩
  have HC1 : Hid (Cps w.heap.size w1 v1 xs1) := hc1
  have HB1 : Hid (Below w.heap.size w w1) := hb1
  have HM1 : Hid (xs1.map Prod.fst = xs.map Prod.fst) := hm1
  have hl1 : xs1.length = n := by have h5 := congrArg List.length hm1; rw [List.length_map, List.length_map, HXN.out] at h5; exact h5
  by_cases h0 : n = 0
  case pos =>
    subst h0
    have hxs : xs = [] := List.length_eq_zero_iff.1 HXN.out
    obtain rfl := hz1 hxs
    clear hc1 HC1 hm1 HM1 hb1 hl1 hxs
    go_wp2_with fail
    refine wp_loop_rounds 1 ?_
    rw [rounds_succ]
    go_wp2_with fail
    refine (ocs_any none 0 0 [] rfl (by omega) w1 ⟨by simp, fun i hi => absurd hi (by simp)⟩ (fun q hq => by cases hq)).mono ?_
    rintro e w2 ⟨v2, zs, rfl, -, -, hb2, hz2⟩
    obtain rfl := hz2 rfl
    have HB2 : Hid (Below w.heap.size w w2) := HB1.out.trans (hb2.mono HB1.out.size)
    clear hb2 HB1
    by_cases hjt : 1 < m
    case pos =>
      have hjj : (1 : Int) < (m : Int) := by omega
      go_wp2_with fail
      refine wp_loop_rounds 1 ?_
      rw [rounds_succ]
      go_wp2_with fail
      refine (order_nil w2).mono ?_
      rintro e w3 ⟨a3, c3, rfl, hb3⟩
      have HB3 : Hid (Below w.heap.size w w3) := HB2.out.trans (hb3.mono HB2.out.size)
      clear hb3
      go_wp2_with fail
      refine (order_nil w3).mono ?_
      rintro e w4 ⟨a4, c4, rfl, hb4⟩
      have HB4 : Hid (Below w.heap.size w w4) := HB3.out.trans (hb4.mono HB3.out.size)
      clear hb4
      go_wp2_with fail
      refine wp_loop_rounds 1 ?_
      rw [rounds_succ]
      go_wp2_with fail
      refine (best_any none 0 0 [] rfl (by omega) w4 ⟨fun W hW => ⟨⟨by simp, fun i hi => absurd hi (by simp)⟩, fun q hq => (by cases hq)⟩⟩ (-1) (by rfl)).mono ?_
      rintro e w5 ⟨rfl, hb5⟩
      have HB5 : Hid (Below w.heap.size w w5) := HB4.out.trans (hb5.mono HB4.out.size)
      clear hb5
      go_wp2_with fail
      go_ret
      exact ⟨rfl, HB5.out⟩
    case neg =>
      have hjj : ¬ (1 : Int) < (m : Int) := by omega
      go_wp2_with fail
      refine wp_loop_rounds 1 ?_
      rw [rounds_succ]
      go_wp2_with fail
      refine (order_nil w2).mono ?_
      rintro e w3 ⟨a3, c3, rfl, hb3⟩
      have HB3 : Hid (Below w.heap.size w w3) := HB2.out.trans (hb3.mono HB2.out.size)
      clear hb3
      go_wp2_with fail
      refine (order_nil w3).mono ?_
      rintro e w4 ⟨a4, c4, rfl, hb4⟩
      have HB4 : Hid (Below w.heap.size w w4) := HB3.out.trans (hb4.mono HB3.out.size)
      clear hb4
      go_wp2_with fail
      refine wp_loop_rounds 1 ?_
      rw [rounds_succ]
      go_wp2_with fail
      refine (best_any none 0 0 [] rfl (by omega) w4 ⟨fun W hW => ⟨⟨by simp, fun i hi => absurd hi (by simp)⟩, fun q hq => (by cases hq)⟩⟩ (-1) (by rfl)).mono ?_
      rintro e w5 ⟨rfl, hb5⟩
      have HB5 : Hid (Below w.heap.size w w5) := HB4.out.trans (hb5.mono HB4.out.size)
      clear hb5
      go_wp2_with fail
      go_ret
      exact ⟨rfl, HB5.out⟩
  have hn0 : 0 < n := by omega
  clear h0 hz1
  rcases hc1.own.row.2 with ⟨-, h2⟩ | ⟨g, c1, cur, rfl, hg, -, hcp, -⟩
  · omega
  rw [hl1] at hc1 HC1 hcp ⊢
  have HQ1 : Hid (Cq w.heap.size g w1 xs1) := HC1.out.cq
  clear hc1 hb1 hm1 HC1
  go_wp2_with fail
  go_loopw [27, 6] (fun iv _ wr => T1I w xs n g iv wr) (fun i _ _ => n - (intOf i).toNat)
  case atStart => exact ⟨⟨0, xs1, by omega, rfl, hl1, fun k hk => by unfold pe; rw [if_neg (by omega)]; exact atO_map HM1.out k, HQ1.out⟩, HB1.out⟩
  case round =>
    clear HQ1 HB1
    obtain ⟨⟨i, ys, hi, rfl, hl, hpe, hq⟩, hb⟩ := hrel
    obtain ⟨wz, hwz⟩ : ∃ y, wr = y := ⟨_, rfl⟩
    rw [hwz] at hq hb ⊢
    have HQ : Hid (Cq w.heap.size g wz ys) := hq
    have HB : Hid (Below w.heap.size w wz) := hb
    have HPE : Hid (∀ k, k < n → atO ys k = pe xs i k) := hpe
    clear hq hb hpe hwz
    by_cases hlt : i < n
    case pos =>
      have hii : (i : Int) < (n : Int) := by omega
      have ii0 : (0 : Int) ≤ (i : Int) := by omega
      obtain ⟨old, k1, k2⟩ := HQ.out.cell (show i < ys.length by omega)
      have HN1 : Hid (T1I w xs n g (.int .i64 ((i + 1 : Nat) : Int)) (wz.setCell ⟨g, i * 13 + 10, none⟩ (.int .i64 (i : Int)))) := ⟨⟨i + 1, _, hlt, rfl, by rw [List.length_set]; exact hl, pe_step hl hlt HPE.out, HQ.out.peer (by omega) _⟩, HB.out.trans ((Ko.set wz g _ _).below hg)⟩
      go_wp2_with fail
      refine ⟨HN1.out, ?_⟩
      simp [intOf]
      omega
    have hii : ¬ (i : Int) < (n : Int) := by omega
    go_wp2_with fail
    have hin : i = n := by omega
    subst hin
    refine (ocs_any (some ⟨g, 0, none⟩) i c1 ys hl (by omega) wz (HQ.out.row.lst (by omega)) HQ.out.oks).mono ?_
    rintro e w2 ⟨v2, zs, rfl, hm2, hc2, hb2, -⟩
    have hl2 : zs.length = i := by have h5 := congrArg List.length hm2; rw [List.length_map, List.length_map, hl] at h5; exact h5
    have HM2 : Hid (zs.map Prod.fst = ys.map Prod.fst) := hm2
    rcases hc2.own.row.2 with ⟨-, h2⟩ | ⟨g2, c2, cur2, rfl, hg2, -, hcp2, -⟩
    · omega
    rw [hl2] at hc2 hcp2 ⊢
    have HQ2 : Hid (Cq wz.heap.size g2 w2 zs) := hc2.cq
    obtain ⟨N2, hN2⟩ : ∃ y, wz.heap.size = y := ⟨_, rfl⟩
    have HB2 : Hid (Below N2 wz w2) := by show Below _ _ _; rw [← hN2]; exact hb2
    have HN2 : Hid (wz.heap.size = N2 ∧ w.heap.size ≤ N2) := ⟨hN2, by rw [← hN2]; exact HB.out.size⟩
    rw [hN2] at HQ2 hg2
    clear hm2 hc2 hb2 hN2
    go_wp2_with fail
    go_loopw [8, 9, 10] (fun iv _ _ wr => T2I wz ys i m N2 g2 iv wr) (fun i _ _ _ => m - (intOf i).toNat)
    case atStart => exact ⟨⟨0, zs, by omega, rfl, hl2, by rw [HM2.out], HQ2.out⟩, HB2.out⟩
    case round =>
      clear HQ2 HB2 HM2 hl2
      obtain ⟨⟨j, zs, hj, rfl, hl2, hpm, hq2⟩, hb2⟩ := hrel
      obtain ⟨wy, hwy⟩ : ∃ y, wr = y := ⟨_, rfl⟩
      rw [hwy] at hq2 hb2 ⊢
      have HQ2 : Hid (Cq N2 g2 wy zs) := hq2
      have HB2 : Hid (Below N2 wz wy) := hb2
      have HPM : Hid ((zs.map Prod.fst).Perm (ys.map Prod.fst)) := hpm
      clear hq2 hb2 hpm hwy
      have hl0 : (0 : Int) < (i : Int) := by omega
      by_cases hjt : j + 1 < m
      case pos =>
        have hjj : (j : Int) + 1 < (m : Int) := by omega
        have hjj0 : (j : Int) < (m : Int) := by omega
        have j0 : (0 : Int) ≤ (j : Int) := by omega
        have j1 : (0 : Int) ≤ (j : Int) + 1 := by omega
        obtain ⟨tb, tf, rfl, -, -⟩ := HT.out.cells j (by rw [HTM.out]; omega)
        have HTC : Hid (∀ q (hq : q < ts.length), wy.cell? ⟨tb, tf + q, none⟩ = some (.int .i64 ts[q])) := fun q hq => by
          obtain ⟨b', o', e', -, hc'⟩ := ((HT.out.bel HB.out).bel (by rw [HN2.out.1]; exact HB2.out)).cells q hq
          cases e'
          have h5 := hc' 0 (by decide)
          have e1 : EI.k = 1 := rfl
          rw [e1, Nat.mul_one] at h5
          exact h5
        have hjl : j < ts.length := by rw [HTM.out]; omega
        have hjl1 : j + 1 < ts.length := by rw [HTM.out]; omega
        obtain ⟨x, hx⟩ : ∃ y, ts[j] = y := ⟨_, rfl⟩
        obtain ⟨y, hy⟩ : ∃ y, ts[j + 1] = y := ⟨_, rfl⟩
        have k1 : wy.cell? ⟨tb, tf + j, none⟩ = some (.int .i64 x) := by rw [← hx]; exact HTC.out j hjl
        have k2 : wy.cell? ⟨tb, tf + (j + 1), none⟩ = some (.int .i64 y) := by rw [← hy]; exact HTC.out (j + 1) hjl1
        have HXY : Hid ((-9223372036854775808 ≤ x ∧ x < 9223372036854775808) ∧ (-9223372036854775808 ≤ y ∧ y < 9223372036854775808)) := ⟨by rw [← hx]; exact HIN.out _ (List.getElem_mem _), by rw [← hy]; exact HIN.out _ (List.getElem_mem _)⟩
        have HTS : Hid (j < ts.length ∧ j + 1 < ts.length) := ⟨hjl, hjl1⟩
        clear hx hy hjl hjl1 HTC
        go_wp2_with fail
        have jb : (j : Int) + 1 < 9223372036854775808 := by omega
        have HWR : Hid (IntKind.i64.wrap ((j : Int) + 1) = (j : Int) + 1) := wr64 _ (by omega) (by omega)
        obtain ⟨wd, hwd⟩ : ∃ y, wy.drew = y := ⟨_, rfl⟩
        have k1' : wd.cell? ⟨tb, tf + j, none⟩ = some (.int .i64 x) := by rw [← hwd]; exact k1
        have k2' : wd.cell? ⟨tb, tf + (j + 1), none⟩ = some (.int .i64 y) := by rw [← hwd]; exact k2
        have HBD : Hid (Below wy.heap.size wy wd) := by rw [← hwd]; exact drew_bel wy
        have HWD : Hid (wy.drew = wd) := hwd
        obtain ⟨p, hp⟩ : ∃ z, md x i = z := ⟨_, rfl⟩
        obtain ⟨q, hq⟩ : ∃ z, md y i = z := ⟨_, rfl⟩
        have HPQ : Hid (md x i = p ∧ md y i = q) := ⟨hp, hq⟩
        have hpi : p < i := by rw [← hp]; exact md_lt hn0
        have hqi : q < i := by rw [← hq]; exact md_lt hn0
        clear hp hq hwd k1 k2
        refine wp_region_held_drew (S := fun W => W = wd) (by kernel_rfl) HWD.out (fun hHeld => ?_)
        rw [HWD.out] at hHeld ⊢
        refine wpAnyH_take (i := 0) (v := .slice (some ⟨tb, tf, none⟩) m tc) rfl (by kernel_rfl) (by kernel_rfl) (by kernel_rfl) (fun _ _ _ h => h) (Or.inl ⟨by rfl, ?_⟩) (by assumption) ?_
        case refine_1 => intro W hSw; rw [hSw]; go_simp; try rfl
        try simp only [Act.put, List.getElem_toArray, List.getElem_cons_zero, List.getElem_cons_succ, List.setIfInBounds_toArray, List.set_cons_zero, List.set_cons_succ]
        refine wpAnyH_take (i := 1) (v := .int .i64 (j : Int)) rfl (by kernel_rfl) (by kernel_rfl) (by kernel_rfl) (fun _ _ _ h => h) (Or.inl ⟨by rfl, ?_⟩) (by assumption) ?_
        case refine_1 => intro W hSw; rw [hSw]; go_simp; try rfl
        try simp only [Act.put, List.getElem_toArray, List.getElem_cons_zero, List.getElem_cons_succ, List.setIfInBounds_toArray, List.set_cons_zero, List.set_cons_succ]
        refine wpAnyH_take (i := 2) (v := .pointer (some ⟨tb, tf + j, none⟩)) rfl (by kernel_rfl) (by kernel_rfl) (by kernel_rfl) (fun _ _ _ h => h) (Or.inl ⟨by rfl, ?_⟩) (by assumption) ?_
        case refine_1 => intro W hSw; rw [hSw]; go_simp; try rfl
        try simp only [Act.put, List.getElem_toArray, List.getElem_cons_zero, List.getElem_cons_succ, List.setIfInBounds_toArray, List.set_cons_zero, List.set_cons_succ]
        refine wpAnyH_take (i := 3) (v := .int .i64 x) rfl (by kernel_rfl) (by kernel_rfl) (by kernel_rfl) (fun _ _ _ h => h) (Or.inl ⟨by rfl, ?_⟩) (by assumption) ?_
        case refine_1 => intro W hSw; rw [hSw]; go_simp; try rfl
        try simp only [Act.put, List.getElem_toArray, List.getElem_cons_zero, List.getElem_cons_succ, List.setIfInBounds_toArray, List.set_cons_zero, List.set_cons_succ]
        refine wpAnyH_take (i := 4) (v := .slice (some ⟨g2, 0, none⟩) i c2) rfl (by kernel_rfl) (by kernel_rfl) (by kernel_rfl) (fun _ _ _ h => h) (Or.inl ⟨by rfl, ?_⟩) (by assumption) ?_
        case refine_1 => intro W hSw; rw [hSw]; go_simp; try rfl
        try simp only [Act.put, List.getElem_toArray, List.getElem_cons_zero, List.getElem_cons_succ, List.setIfInBounds_toArray, List.set_cons_zero, List.set_cons_succ]
        refine wpAnyH_take (i := 5) (v := .int .i64 (i : Int)) rfl (by kernel_rfl) (by kernel_rfl) (by kernel_rfl) (fun _ _ _ h => h) (Or.inl ⟨by rfl, ?_⟩) (by assumption) ?_
        case refine_1 => intro W hSw; rw [hSw]; go_simp; try rfl
        try simp only [Act.put, List.getElem_toArray, List.getElem_cons_zero, List.getElem_cons_succ, List.setIfInBounds_toArray, List.set_cons_zero, List.set_cons_succ]
        refine wpAnyH_take (i := 7) (v := .slice (some ⟨tb, tf, none⟩) m tc) rfl (by kernel_rfl) (by kernel_rfl) (by kernel_rfl) (fun _ _ _ h => h) (Or.inl ⟨by rfl, ?_⟩) (by assumption) ?_
        case refine_1 => intro W hSw; rw [hSw]; go_simp; try rfl
        try simp only [Act.put, List.getElem_toArray, List.getElem_cons_zero, List.getElem_cons_succ, List.setIfInBounds_toArray, List.set_cons_zero, List.set_cons_succ]
        refine wpAnyH_take (i := 8) (v := .int .i64 (j : Int)) rfl (by kernel_rfl) (by kernel_rfl) (by kernel_rfl) (fun _ _ _ h => h) (Or.inl ⟨by rfl, ?_⟩) (by assumption) ?_
        case refine_1 => intro W hSw; rw [hSw]; go_simp; try rfl
        try simp only [Act.put, List.getElem_toArray, List.getElem_cons_zero, List.getElem_cons_succ, List.setIfInBounds_toArray, List.set_cons_zero, List.set_cons_succ]
        refine wpAnyH_take (i := 9) (v := .int .i64 ((j : Int) + 1)) rfl (by kernel_rfl) (by kernel_rfl) (by kernel_rfl) (fun _ _ _ h => h) (Or.inl ⟨by rfl, ?_⟩) (by assumption) ?_
        case refine_1 => intro W hSw; rw [hSw]; go_simp; exact HWR.out
        try simp only [Act.put, List.getElem_toArray, List.getElem_cons_zero, List.getElem_cons_succ, List.setIfInBounds_toArray, List.set_cons_zero, List.set_cons_succ]
        refine wpAnyH_take (i := 10) (v := .pointer (some ⟨tb, tf + (j + 1), none⟩)) rfl (by kernel_rfl) (by kernel_rfl) (by kernel_rfl) (fun _ _ _ h => h) (Or.inl ⟨by rfl, ?_⟩) (by assumption) ?_
        case refine_1 => intro W hSw; rw [hSw]; go_simp; try rfl
        try simp only [Act.put, List.getElem_toArray, List.getElem_cons_zero, List.getElem_cons_succ, List.setIfInBounds_toArray, List.set_cons_zero, List.set_cons_succ]
        refine wpAnyH_take (i := 11) (v := .int .i64 y) rfl (by kernel_rfl) (by kernel_rfl) (by kernel_rfl) (fun _ _ _ h => h) (Or.inl ⟨by rfl, ?_⟩) (by assumption) ?_
        case refine_1 => intro W hSw; rw [hSw]; go_simp; try rfl
        try simp only [Act.put, List.getElem_toArray, List.getElem_cons_zero, List.getElem_cons_succ, List.setIfInBounds_toArray, List.set_cons_zero, List.set_cons_succ]
        refine wpAnyH_take (i := 12) (v := .slice (some ⟨g2, 0, none⟩) i c2) rfl (by kernel_rfl) (by kernel_rfl) (by kernel_rfl) (fun _ _ _ h => h) (Or.inl ⟨by rfl, ?_⟩) (by assumption) ?_
        case refine_1 => intro W hSw; rw [hSw]; go_simp; try rfl
        try simp only [Act.put, List.getElem_toArray, List.getElem_cons_zero, List.getElem_cons_succ, List.setIfInBounds_toArray, List.set_cons_zero, List.set_cons_succ]
        refine wpAnyH_take (i := 13) (v := .int .i64 (i : Int)) rfl (by kernel_rfl) (by kernel_rfl) (by kernel_rfl) (fun _ _ _ h => h) (Or.inl ⟨by rfl, ?_⟩) (by assumption) ?_
        case refine_1 => intro W hSw; rw [hSw]; go_simp; try rfl
        try simp only [Act.put, List.getElem_toArray, List.getElem_cons_zero, List.getElem_cons_succ, List.setIfInBounds_toArray, List.set_cons_zero, List.set_cons_succ]
        refine wpAnyH_ready (rs := [6]) (by kernel_rfl) (by simp) ?_
        refine AllReadyH.cons rfl (fun K hK => ?_) AllReadyH.nil
        go_simp
        refine (mod_any x HXY.out.1 i (by omega) (by omega) p HPQ.out.1 wd).mono ?_
        rintro e we ⟨rfl, hwe⟩
        rw [hwe]
        clear hwe we
        refine hK.out _ _ rfl (fun hHeld => ?_)
        clear hK K
        try simp only [Act.put, List.getElem_toArray, List.getElem_cons_zero, List.getElem_cons_succ, List.setIfInBounds_toArray, List.set_cons_zero, List.set_cons_succ]
        refine wpAnyH_ready (rs := [14]) (by kernel_rfl) (by simp) ?_
        refine AllReadyH.cons rfl (fun K hK => ?_) AllReadyH.nil
        go_simp
        refine (mod_any y HXY.out.2 i (by omega) (by omega) q HPQ.out.2 wd).mono ?_
        rintro e we ⟨rfl, hwe⟩
        rw [hwe]
        clear hwe we
        refine hK.out _ _ rfl (fun hHeld => ?_)
        clear hK K
        try simp only [Act.put, List.getElem_toArray, List.getElem_cons_zero, List.getElem_cons_succ, List.setIfInBounds_toArray, List.set_cons_zero, List.set_cons_succ]
        refine wpAnyH_take (i := 15) (v := .int .i64 (p : Int)) rfl (by kernel_rfl) (by kernel_rfl) (by kernel_rfl) (fun _ _ _ h => h) (Or.inl ⟨by rfl, ?_⟩) (by assumption) ?_
        case refine_1 => intro W hSw; rw [hSw]; go_simp; try rfl
        try simp only [Act.put, List.getElem_toArray, List.getElem_cons_zero, List.getElem_cons_succ, List.setIfInBounds_toArray, List.set_cons_zero, List.set_cons_succ]
        refine wpAnyH_take (i := 16) (v := .int .i64 (q : Int)) rfl (by kernel_rfl) (by kernel_rfl) (by kernel_rfl) (fun _ _ _ h => h) (Or.inl ⟨by rfl, ?_⟩) (by assumption) ?_
        case refine_1 => intro W hSw; rw [hSw]; go_simp; try rfl
        try simp only [Act.put, List.getElem_toArray, List.getElem_cons_zero, List.getElem_cons_succ, List.setIfInBounds_toArray, List.set_cons_zero, List.set_cons_succ]
        refine wpAnyH_done (by kernel_rfl) ?_ _
        clear hHeld k1' k2' jb
        have HQ3 : Hid (Cq N2 g2 wd zs) := HQ2.out.bel HBD.out
        have HB3 : Hid (Below N2 wz wd) := HB2.out.trans (HBD.out.mono (by have := HQ2.out.row.lt; omega))
        clear HQ2 HB2 HBD HWD
        have hpii : (p : Int) < (i : Int) := by omega
        have hqii : (q : Int) < (i : Int) := by omega
        have p0 : (0 : Int) ≤ (p : Int) := by omega
        have q0 : (0 : Int) ≤ (q : Int) := by omega
        go_wp2_with fail
        refine wp_region_held_drew (S := fun _ => True) (by kernel_rfl) trivial (fun hHeld => ?_)
        obtain ⟨wc, hwc⟩ : ∃ y, wd.drew = y := ⟨_, rfl⟩
        have HQ4 : Hid (Cq N2 g2 wc zs) := by rw [← hwc]; exact HQ3.out.bel (drew_bel wd)
        have HB4 : Hid (Below N2 wz wc) := by rw [← hwc]; exact HB3.out.trans ((drew_bel wd).mono (by have := HQ3.out.row.lt; omega))
        rw [hwc]
        clear HQ3 HB3 hwc
        have HRp : Hid (∀ k, k < OfK.k → wc.cell? ⟨g2, p * 13 + k, none⟩ = (ofL (zs[p]'(by omega)).1 (zs[p]'(by omega)).2)[k]?) := fun k hk => HQ4.out.row.cells (by omega) k hk
        have HRq : Hid (∀ k, k < OfK.k → wc.cell? ⟨g2, q * 13 + k, none⟩ = (ofL (zs[q]'(by omega)).1 (zs[q]'(by omega)).2)[k]?) := fun k hk => HQ4.out.row.cells (by omega) k hk
        have HTH : Hid (wc.there g2 (p * 13) 13 ∧ (wc.setCells g2 (p * 13) (ofL (zs[q]'(by omega)).1 (zs[q]'(by omega)).2)).there g2 (q * 13) 13) := ⟨HQ4.out.row.th p (by omega), World.there_setCells (HQ4.out.row.th q (by omega)) _ _ _⟩
        have HG : Hid (T2I wz ys i m N2 g2 (.int .i64 ((j + 2 : Nat) : Int)) ((wc.setCells g2 (p * 13) (ofL (zs[q]'(by omega)).1 (zs[q]'(by omega)).2)).setCells g2 (q * 13) (ofL (zs[p]'(by omega)).1 (zs[p]'(by omega)).2))) := swap_t2 HQ4.out HB4.out (by omega) (by omega) HPM.out hg2 (by omega) hl2 HN2.out.1
        refine wpAnyH_take (i := 0) (v := .slice (some ⟨g2, 0, none⟩) i c2) rfl (by kernel_rfl) (by kernel_rfl) (by kernel_rfl) (fun _ _ _ h => h) (Or.inl ⟨by rfl, ?_⟩) (by assumption) ?_
        case refine_1 => intro W hSw; go_simp; try rfl
        try simp only [Act.put, List.getElem_toArray, List.getElem_cons_zero, List.getElem_cons_succ, List.setIfInBounds_toArray, List.set_cons_zero, List.set_cons_succ]
        refine wpAnyH_take (i := 1) (v := .int .i64 (p : Int)) rfl (by kernel_rfl) (by kernel_rfl) (by kernel_rfl) (fun _ _ _ h => h) (Or.inl ⟨by rfl, ?_⟩) (by assumption) ?_
        case refine_1 => intro W hSw; go_simp; try rfl
        try simp only [Act.put, List.getElem_toArray, List.getElem_cons_zero, List.getElem_cons_succ, List.setIfInBounds_toArray, List.set_cons_zero, List.set_cons_succ]
        refine wpAnyH_take (i := 2) (v := .slice (some ⟨g2, 0, none⟩) i c2) rfl (by kernel_rfl) (by kernel_rfl) (by kernel_rfl) (fun _ _ _ h => h) (Or.inl ⟨by rfl, ?_⟩) (by assumption) ?_
        case refine_1 => intro W hSw; go_simp; try rfl
        try simp only [Act.put, List.getElem_toArray, List.getElem_cons_zero, List.getElem_cons_succ, List.setIfInBounds_toArray, List.set_cons_zero, List.set_cons_succ]
        refine wpAnyH_take (i := 3) (v := .int .i64 (q : Int)) rfl (by kernel_rfl) (by kernel_rfl) (by kernel_rfl) (fun _ _ _ h => h) (Or.inl ⟨by rfl, ?_⟩) (by assumption) ?_
        case refine_1 => intro W hSw; go_simp; try rfl
        try simp only [Act.put, List.getElem_toArray, List.getElem_cons_zero, List.getElem_cons_succ, List.setIfInBounds_toArray, List.set_cons_zero, List.set_cons_succ]
        refine wpAnyH_take (i := 4) (v := .slice (some ⟨g2, 0, none⟩) i c2) rfl (by kernel_rfl) (by kernel_rfl) (by kernel_rfl) (fun _ _ _ h => h) (Or.inl ⟨by rfl, ?_⟩) (by assumption) ?_
        case refine_1 => intro W hSw; go_simp; try rfl
        try simp only [Act.put, List.getElem_toArray, List.getElem_cons_zero, List.getElem_cons_succ, List.setIfInBounds_toArray, List.set_cons_zero, List.set_cons_succ]
        refine wpAnyH_take (i := 5) (v := .int .i64 (q : Int)) rfl (by kernel_rfl) (by kernel_rfl) (by kernel_rfl) (fun _ _ _ h => h) (Or.inl ⟨by rfl, ?_⟩) (by assumption) ?_
        case refine_1 => intro W hSw; go_simp; try rfl
        try simp only [Act.put, List.getElem_toArray, List.getElem_cons_zero, List.getElem_cons_succ, List.setIfInBounds_toArray, List.set_cons_zero, List.set_cons_succ]
        refine wpAnyH_take (i := 6) (v := .pointer (some ⟨g2, q * 13, none⟩)) rfl (by kernel_rfl) (by kernel_rfl) (by kernel_rfl) (fun _ _ _ h => h) (Or.inl ⟨by rfl, ?_⟩) (by assumption) ?_
        case refine_1 => intro W hSw; go_simp; try rfl
        try simp only [Act.put, List.getElem_toArray, List.getElem_cons_zero, List.getElem_cons_succ, List.setIfInBounds_toArray, List.set_cons_zero, List.set_cons_succ]
        refine wpAnyH_take (i := 8) (v := .slice (some ⟨g2, 0, none⟩) i c2) rfl (by kernel_rfl) (by kernel_rfl) (by kernel_rfl) (fun _ _ _ h => h) (Or.inl ⟨by rfl, ?_⟩) (by assumption) ?_
        case refine_1 => intro W hSw; go_simp; try rfl
        try simp only [Act.put, List.getElem_toArray, List.getElem_cons_zero, List.getElem_cons_succ, List.setIfInBounds_toArray, List.set_cons_zero, List.set_cons_succ]
        refine wpAnyH_take (i := 9) (v := .int .i64 (p : Int)) rfl (by kernel_rfl) (by kernel_rfl) (by kernel_rfl) (fun _ _ _ h => h) (Or.inl ⟨by rfl, ?_⟩) (by assumption) ?_
        case refine_1 => intro W hSw; go_simp; try rfl
        try simp only [Act.put, List.getElem_toArray, List.getElem_cons_zero, List.getElem_cons_succ, List.setIfInBounds_toArray, List.set_cons_zero, List.set_cons_succ]
        refine wpAnyH_take (i := 10) (v := .pointer (some ⟨g2, p * 13, none⟩)) rfl (by kernel_rfl) (by kernel_rfl) (by kernel_rfl) (fun _ _ _ h => h) (Or.inl ⟨by rfl, ?_⟩) (by assumption) ?_
        case refine_1 => intro W hSw; go_simp; try rfl
        try simp only [Act.put, List.getElem_toArray, List.getElem_cons_zero, List.getElem_cons_succ, List.setIfInBounds_toArray, List.set_cons_zero, List.set_cons_succ]
        refine wpAnyH_ready (rs := [7, 11]) (by kernel_rfl) (by simp) ?_
        refine AllReadyH.cons rfl (fun K hK => ?_) (AllReadyH.cons rfl (fun K hK => ?_) AllReadyH.nil)
        · skip
          refine step_run rfl (sat_run OfK (.tmp 71) rfl (b := g2) (k := q * 13) (cs := ofL (zs[q]'(by omega)).1 (zs[q]'(by omega)).2) rfl (HRq.out) rfl) ?_
          refine hK.out _ _ trivial (fun hHeld => ?_)
          clear hK K
          try simp only [Act.put, List.getElem_toArray, List.getElem_cons_zero, List.getElem_cons_succ, List.setIfInBounds_toArray, List.set_cons_zero, List.set_cons_succ]
          refine wpAnyH_ready (rs := [11]) (by kernel_rfl) (by simp) ?_
          refine AllReadyH.cons rfl (fun K hK => ?_) AllReadyH.nil
          refine step_run rfl (sat_run OfK (.tmp 75) rfl (b := g2) (k := p * 13) (cs := ofL (zs[p]'(by omega)).1 (zs[p]'(by omega)).2) rfl (HRp.out) rfl) ?_
          refine hK.out _ _ trivial (fun hHeld => ?_)
          clear hK K
          try simp only [Act.put, List.getElem_toArray, List.getElem_cons_zero, List.getElem_cons_succ, List.setIfInBounds_toArray, List.set_cons_zero, List.set_cons_succ]
          refine wpAnyH_take (i := 12) (v := .pointer (some ⟨g2, p * 13, none⟩)) rfl (by kernel_rfl) (by kernel_rfl) (by kernel_rfl) (fun _ _ _ h => h) (Or.inl ⟨by rfl, ?_⟩) (by assumption) ?_
          case refine_1 => intro W hSw; go_simp; try rfl
          try simp only [Act.put, List.getElem_toArray, List.getElem_cons_zero, List.getElem_cons_succ, List.setIfInBounds_toArray, List.set_cons_zero, List.set_cons_succ]
          refine wpAnyH_ready (rs := [13]) (by kernel_rfl) (by simp) ?_
          refine AllReadyH.cons rfl (fun K hK => ?_) AllReadyH.nil
          refine step_runs rfl (rowst_run OfK (.tmp 77) (.tmp 72) rfl (b := g2) (k := p * 13) (cs := ofL (zs[q]'(by omega)).1 (zs[q]'(by omega)).2) rfl rfl (HTH.out.1) rfl rfl) ?_
          refine hK.out _ _ trivial (fun hHeld => ?_)
          clear hK K
          try simp only [Act.put, List.getElem_toArray, List.getElem_cons_zero, List.getElem_cons_succ, List.setIfInBounds_toArray, List.set_cons_zero, List.set_cons_succ]
          obtain ⟨w5, hw5⟩ : ∃ y, wc.setCells g2 (p * 13) (ofL (zs[q]'(by omega)).1 (zs[q]'(by omega)).2) = y := ⟨_, rfl⟩
          rw [hw5] at HG HTH ⊢
          clear hw5
          refine wpAnyH_take (i := 14) (v := .pointer (some ⟨g2, q * 13, none⟩)) rfl (by kernel_rfl) (by kernel_rfl) (by kernel_rfl) (fun _ _ _ h => h) (Or.inl ⟨by rfl, ?_⟩) (by assumption) ?_
          case refine_1 => intro W hSw; go_simp; try rfl
          try simp only [Act.put, List.getElem_toArray, List.getElem_cons_zero, List.getElem_cons_succ, List.setIfInBounds_toArray, List.set_cons_zero, List.set_cons_succ]
          refine wpAnyH_ready (rs := [15]) (by kernel_rfl) (by simp) ?_
          refine AllReadyH.cons rfl (fun K hK => ?_) AllReadyH.nil
          refine step_runs rfl (rowst_run OfK (.tmp 78) (.tmp 76) rfl (b := g2) (k := q * 13) (cs := ofL (zs[p]'(by omega)).1 (zs[p]'(by omega)).2) rfl rfl (HTH.out.2) rfl rfl) ?_
          refine hK.out _ _ trivial (fun hHeld => ?_)
          clear hK K
          try simp only [Act.put, List.getElem_toArray, List.getElem_cons_zero, List.getElem_cons_succ, List.setIfInBounds_toArray, List.set_cons_zero, List.set_cons_succ]
          obtain ⟨w6, hw6⟩ : ∃ y, w5.setCells g2 (q * 13) (ofL (zs[p]'(by omega)).1 (zs[p]'(by omega)).2) = y := ⟨_, rfl⟩
          rw [hw6] at HG ⊢
          clear hw6
          refine wpAnyH_done (by kernel_rfl) ?_ _
          clear hHeld HTH HRp HRq HQ4 HB4
          go_wp2_with fail
          refine ⟨HG.out, ?_⟩
          simp [intOf]
          omega
        · skip
          refine step_run rfl (sat_run OfK (.tmp 75) rfl (b := g2) (k := p * 13) (cs := ofL (zs[p]'(by omega)).1 (zs[p]'(by omega)).2) rfl (HRp.out) rfl) ?_
          refine hK.out _ _ trivial (fun hHeld => ?_)
          clear hK K
          try simp only [Act.put, List.getElem_toArray, List.getElem_cons_zero, List.getElem_cons_succ, List.setIfInBounds_toArray, List.set_cons_zero, List.set_cons_succ]
          refine wpAnyH_ready (rs := [7]) (by kernel_rfl) (by simp) ?_
          refine AllReadyH.cons rfl (fun K hK => ?_) AllReadyH.nil
          refine step_run rfl (sat_run OfK (.tmp 71) rfl (b := g2) (k := q * 13) (cs := ofL (zs[q]'(by omega)).1 (zs[q]'(by omega)).2) rfl (HRq.out) rfl) ?_
          refine hK.out _ _ trivial (fun hHeld => ?_)
          clear hK K
          try simp only [Act.put, List.getElem_toArray, List.getElem_cons_zero, List.getElem_cons_succ, List.setIfInBounds_toArray, List.set_cons_zero, List.set_cons_succ]
          refine wpAnyH_take (i := 12) (v := .pointer (some ⟨g2, p * 13, none⟩)) rfl (by kernel_rfl) (by kernel_rfl) (by kernel_rfl) (fun _ _ _ h => h) (Or.inl ⟨by rfl, ?_⟩) (by assumption) ?_
          case refine_1 => intro W hSw; go_simp; try rfl
          try simp only [Act.put, List.getElem_toArray, List.getElem_cons_zero, List.getElem_cons_succ, List.setIfInBounds_toArray, List.set_cons_zero, List.set_cons_succ]
          refine wpAnyH_ready (rs := [13]) (by kernel_rfl) (by simp) ?_
          refine AllReadyH.cons rfl (fun K hK => ?_) AllReadyH.nil
          refine step_runs rfl (rowst_run OfK (.tmp 77) (.tmp 72) rfl (b := g2) (k := p * 13) (cs := ofL (zs[q]'(by omega)).1 (zs[q]'(by omega)).2) rfl rfl (HTH.out.1) rfl rfl) ?_
          refine hK.out _ _ trivial (fun hHeld => ?_)
          clear hK K
          try simp only [Act.put, List.getElem_toArray, List.getElem_cons_zero, List.getElem_cons_succ, List.setIfInBounds_toArray, List.set_cons_zero, List.set_cons_succ]
          obtain ⟨w5, hw5⟩ : ∃ y, wc.setCells g2 (p * 13) (ofL (zs[q]'(by omega)).1 (zs[q]'(by omega)).2) = y := ⟨_, rfl⟩
          rw [hw5] at HG HTH ⊢
          clear hw5
          refine wpAnyH_take (i := 14) (v := .pointer (some ⟨g2, q * 13, none⟩)) rfl (by kernel_rfl) (by kernel_rfl) (by kernel_rfl) (fun _ _ _ h => h) (Or.inl ⟨by rfl, ?_⟩) (by assumption) ?_
          case refine_1 => intro W hSw; go_simp; try rfl
          try simp only [Act.put, List.getElem_toArray, List.getElem_cons_zero, List.getElem_cons_succ, List.setIfInBounds_toArray, List.set_cons_zero, List.set_cons_succ]
          refine wpAnyH_ready (rs := [15]) (by kernel_rfl) (by simp) ?_
          refine AllReadyH.cons rfl (fun K hK => ?_) AllReadyH.nil
          refine step_runs rfl (rowst_run OfK (.tmp 78) (.tmp 76) rfl (b := g2) (k := q * 13) (cs := ofL (zs[p]'(by omega)).1 (zs[p]'(by omega)).2) rfl rfl (HTH.out.2) rfl rfl) ?_
          refine hK.out _ _ trivial (fun hHeld => ?_)
          clear hK K
          try simp only [Act.put, List.getElem_toArray, List.getElem_cons_zero, List.getElem_cons_succ, List.setIfInBounds_toArray, List.set_cons_zero, List.set_cons_succ]
          obtain ⟨w6, hw6⟩ : ∃ y, w5.setCells g2 (q * 13) (ofL (zs[p]'(by omega)).1 (zs[p]'(by omega)).2) = y := ⟨_, rfl⟩
          rw [hw6] at HG ⊢
          clear hw6
          refine wpAnyH_done (by kernel_rfl) ?_ _
          clear hHeld HTH HRp HRq HQ4 HB4
          go_wp2_with fail
          refine ⟨HG.out, ?_⟩
          simp [intOf]
          omega
      have hjj : ¬ (j : Int) + 1 < (m : Int) := by omega
      have HQA : Hid (Cq w.heap.size g wy ys) := HQ.out.bel (by rw [HN2.out.1]; exact HB2.out)
      have HBW : Hid (Below w.heap.size w wy) := HB.out.trans (HB2.out.mono HN2.out.2)
      go_wp2_with fail
      refine (order_any g 0 i c1 ys hl hn0 (by omega) wy (ofs_of2 (HQA.out.row.lst (by omega)) HQA.out.oks)).mono ?_
      rintro e w5 ⟨oa, om, oc, ps, rfl, hpl, hor, hb5, hrow5⟩
      have HR5 : Hid (om = 0 ∨ ∃ g', oa = some ⟨g', 0, none⟩ ∧ wy.heap.size ≤ g' ∧ RowN g' ps w5) := hrow5
      have HB5 : Hid (Below wy.heap.size wy w5) := hb5
      have HOR : Hid (OrdR ys i ps) := hor
      clear hb5 hor hrow5 HB2 HB HQ hj hjj hjt
      go_wp2_with fail
      have HQB : Hid (Cq N2 g2 w5 zs) := HQ2.out.bel HB5.out
      refine (order_any g2 0 i c2 zs hl2 hn0 (by omega) w5 (ofs_of2 (HQB.out.row.lst (by omega)) HQB.out.oks)).mono ?_
      rintro e w6 ⟨ob, om2, oc2, qs, rfl, hql, hor2, hb6, hrow6⟩
      obtain ⟨hP, hPI⟩ := pm_of hl HPM.out (fun k hk => by rw [HPE.out k hk]; unfold pe; rw [if_pos hk])
      have hps : ps = qs.map (fun j => (atO zs j).peer.toNat) := same_order hP HOR.out hor2
      have hlen : om2 = om := by rw [← hpl, ← hql, hps, List.length_map]
      subst hlen
      have HB6 : Hid (Below w5.heap.size w5 w6) := hb6
      have HR6 : Hid (om2 = 0 ∨ ∃ g', ob = some ⟨g', 0, none⟩ ∧ w5.heap.size ≤ g' ∧ RowN g' qs w6) := hrow6
      have HOR2 : Hid (OrdR zs i qs) := hor2
      have HLEN : Hid (ps.length = om2 ∧ qs.length = om2) := ⟨hpl, hql⟩
      have HAB : Hid (∀ k (hk : k < om2), ∃ a b : Nat, (∃ h : k < ps.length, ps[k] = a) ∧ (∃ h : k < qs.length, qs[k] = b) ∧ a < i ∧ b < i ∧ (atO ys a).peer = (a : Int) ∧ (atO zs b).peer = (a : Int)) := fun k hk => by
        have hkq : k < qs.length := by rw [hql]; exact hk
        have hkp : k < ps.length := by rw [hpl]; exact hk
        have hb : qs[k] < i := (mem_rch.1 (hor2.perm.mem_iff.1 (List.getElem_mem hkq))).1
        have e1 : ps[k] = (atO zs qs[k]).peer.toNat := by
          have h5 := hP
          simp only [hps, List.getElem_map]
        have ha : ps[k] < i := by rw [e1]; exact hP.lt _ hb
        refine ⟨ps[k], qs[k], ⟨hkp, rfl⟩, ⟨hkq, rfl⟩, ha, hb, ?_, ?_⟩
        · rw [HPE.out _ ha]; unfold pe; rw [if_pos ha]
        · rw [e1]; exact (hPI _ hb).symm
      have HHD : Hid (qs.head? = bsP (atO zs) (rchP (atO zs) i)) := (ord_first hor2).symm
      have homs : om2 ≤ 1000 := by
        have h5 := hor2.perm.length_eq
        have h6 : (rchP (atO zs) i).length ≤ i := by unfold rchP; exact Nat.le_trans (List.length_filter_le _ _) (by rw [List.length_range]; exact Nat.le_refl _)
        omega
      clear hb6 hrow6 hor2 hpl hql hps hP hPI
      go_wp2_with fail
      go_loopw [90, 13] (fun iv _ wr => (∃ k : Nat, k ≤ om2 ∧ iv = .int .i64 (k : Int)) ∧ Below w6.heap.size w6 wr) (fun i _ _ => om2 - (intOf i).toNat)
      case atStart => exact ⟨⟨0, by omega, rfl⟩, Below.refl _ _⟩
      case round =>
        obtain ⟨⟨k, hk, rfl⟩, hb7⟩ := hrel
        obtain ⟨wt, hwt⟩ : ∃ y, wr = y := ⟨_, rfl⟩
        rw [hwt] at hb7 ⊢
        have HB7 : Hid (Below w6.heap.size w6 wt) := hb7
        clear hb7 hwt
        by_cases hkm : k < om2
        case pos =>
          have hkk : (k : Int) < (om2 : Int) := by omega
          have kk0 : (0 : Int) ≤ (k : Int) := by omega
          obtain ⟨a, b, ⟨hkp, ea⟩, ⟨hkq, eb⟩, ha, hb, hpa, hpb⟩ := HAB.out k hkm
          rcases HR5.out with h0 | ⟨ga, rfl, hga, hra⟩
          · omega
          rcases HR6.out with h0 | ⟨gb, rfl, hgb, hrb⟩
          · omega
          obtain ⟨wd, hwd⟩ : ∃ y, wt.drew = y := ⟨_, rfl⟩
          have HB8 : Hid (Below w6.heap.size w6 wd) := by rw [← hwd]; exact HB7.out.trans ((drew_bel wt).mono HB7.out.size)
          have HB58 : Hid (Below w5.heap.size w5 wd) := HB6.out.trans (HB8.out.mono HB6.out.size)
          have HBy8 : Hid (Below wy.heap.size wy wd) := HB5.out.trans (HB58.out.mono HB5.out.size)
          have d1 : wd.cell? ⟨ga, k, none⟩ = some (.int .i64 (a : Int)) := by rw [← ea]; exact ((hra.bel HB58.out).at_ k hkp).1
          have d2 : wd.cell? ⟨gb, k, none⟩ = some (.int .i64 (b : Int)) := by rw [← eb]; exact ((hrb.bel HB8.out).at_ k hkq).1
          have d3 : wd.cell? ⟨g, a * 13 + 10, none⟩ = some (.int .i64 (a : Int)) := by
            rw [(HQA.out.row.bel HBy8.out).cells (i := a) (by omega) 10 (by decide), ← hpa, at_of (by omega)]
            rfl
          have d4 : wd.cell? ⟨g2, b * 13 + 10, none⟩ = some (.int .i64 (a : Int)) := by
            rw [(HQB.out.row.bel HB58.out).cells (i := b) (by omega) 10 (by decide), ← hpb, at_of (by omega)]
            rfl
          have HWD : Hid (wt.drew = wd) := hwd
          have a0 : (0 : Int) ≤ (a : Int) := by omega
          have a1 : (a : Int) < (i : Int) := by omega
          have a2 : ¬ (a : Int) < 0 := by omega
          have a3 : ¬ (i : Int) ≤ (a : Int) := by omega
          have b0 : (0 : Int) ≤ (b : Int) := by omega
          have b1 : (b : Int) < (i : Int) := by omega
          have b2 : ¬ (b : Int) < 0 := by omega
          have b3 : ¬ (i : Int) ≤ (b : Int) := by omega
          clear ea eb hpa hpb hra hrb hwd hkp hkq
          go_wp2_with fail
          refine wp_region_held_drew (S := fun W => W = wd) (by kernel_rfl) HWD.out (fun hHeld => ?_)
          rw [HWD.out] at hHeld ⊢
          refine wpAnyH_take (i := 0) (v := .slice (some ⟨ga, 0, none⟩) om2 oc) rfl (by kernel_rfl) (by kernel_rfl) (by kernel_rfl) (fun _ _ _ h => h) (Or.inl ⟨by rfl, ?_⟩) (by assumption) ?_
          case refine_1 => intro W hSw; rw [hSw]; go_simp; try rfl
          try simp only [Act.put, List.getElem_toArray, List.getElem_cons_zero, List.getElem_cons_succ, List.setIfInBounds_toArray, List.set_cons_zero, List.set_cons_succ]
          refine wpAnyH_take (i := 1) (v := .int .i64 (k : Int)) rfl (by kernel_rfl) (by kernel_rfl) (by kernel_rfl) (fun _ _ _ h => h) (Or.inl ⟨by rfl, ?_⟩) (by assumption) ?_
          case refine_1 => intro W hSw; rw [hSw]; go_simp; try rfl
          try simp only [Act.put, List.getElem_toArray, List.getElem_cons_zero, List.getElem_cons_succ, List.setIfInBounds_toArray, List.set_cons_zero, List.set_cons_succ]
          refine wpAnyH_take (i := 2) (v := .pointer (some ⟨ga, k, none⟩)) rfl (by kernel_rfl) (by kernel_rfl) (by kernel_rfl) (fun _ _ _ h => h) (Or.inl ⟨by rfl, ?_⟩) (by assumption) ?_
          case refine_1 => intro W hSw; rw [hSw]; go_simp; try rfl
          try simp only [Act.put, List.getElem_toArray, List.getElem_cons_zero, List.getElem_cons_succ, List.setIfInBounds_toArray, List.set_cons_zero, List.set_cons_succ]
          refine wpAnyH_take (i := 3) (v := .int .i64 (a : Int)) rfl (by kernel_rfl) (by kernel_rfl) (by kernel_rfl) (fun _ _ _ h => h) (Or.inl ⟨by rfl, ?_⟩) (by assumption) ?_
          case refine_1 => intro W hSw; rw [hSw]; go_simp; try rfl
          try simp only [Act.put, List.getElem_toArray, List.getElem_cons_zero, List.getElem_cons_succ, List.setIfInBounds_toArray, List.set_cons_zero, List.set_cons_succ]
          refine wpAnyH_take (i := 4) (v := .bool false) rfl (by kernel_rfl) (by kernel_rfl) (by kernel_rfl) (fun _ _ _ h => h) (Or.inl ⟨by rfl, ?_⟩) (by assumption) ?_
          case refine_1 => intro W hSw; rw [hSw]; go_simp; try rfl
          try simp only [Act.put, List.getElem_toArray, List.getElem_cons_zero, List.getElem_cons_succ, List.setIfInBounds_toArray, List.set_cons_zero, List.set_cons_succ]
          refine wpAnyH_take (i := 5) (v := .bool false) rfl (by kernel_rfl) (by kernel_rfl) (by kernel_rfl) (fun _ _ _ h => h) (Or.inl ⟨by rfl, ?_⟩) (by assumption) ?_
          case refine_1 => intro W hSw; rw [hSw]; go_simp; try rfl
          try simp only [Act.put, List.getElem_toArray, List.getElem_cons_zero, List.getElem_cons_succ, List.setIfInBounds_toArray, List.set_cons_zero, List.set_cons_succ]
          refine wpAnyH_take (i := 6) (v := .slice (some ⟨ga, 0, none⟩) om2 oc) rfl (by kernel_rfl) (by kernel_rfl) (by kernel_rfl) (fun _ _ _ h => h) (Or.inl ⟨by rfl, ?_⟩) (by assumption) ?_
          case refine_1 => intro W hSw; rw [hSw]; go_simp; try rfl
          try simp only [Act.put, List.getElem_toArray, List.getElem_cons_zero, List.getElem_cons_succ, List.setIfInBounds_toArray, List.set_cons_zero, List.set_cons_succ]
          refine wpAnyH_take (i := 7) (v := .int .i64 (k : Int)) rfl (by kernel_rfl) (by kernel_rfl) (by kernel_rfl) (fun _ _ _ h => h) (Or.inl ⟨by rfl, ?_⟩) (by assumption) ?_
          case refine_1 => intro W hSw; rw [hSw]; go_simp; try rfl
          try simp only [Act.put, List.getElem_toArray, List.getElem_cons_zero, List.getElem_cons_succ, List.setIfInBounds_toArray, List.set_cons_zero, List.set_cons_succ]
          refine wpAnyH_take (i := 8) (v := .pointer (some ⟨ga, k, none⟩)) rfl (by kernel_rfl) (by kernel_rfl) (by kernel_rfl) (fun _ _ _ h => h) (Or.inl ⟨by rfl, ?_⟩) (by assumption) ?_
          case refine_1 => intro W hSw; rw [hSw]; go_simp; try rfl
          try simp only [Act.put, List.getElem_toArray, List.getElem_cons_zero, List.getElem_cons_succ, List.setIfInBounds_toArray, List.set_cons_zero, List.set_cons_succ]
          refine wpAnyH_take (i := 9) (v := .int .i64 (a : Int)) rfl (by kernel_rfl) (by kernel_rfl) (by kernel_rfl) (fun _ _ _ h => h) (Or.inl ⟨by rfl, ?_⟩) (by assumption) ?_
          case refine_1 => intro W hSw; rw [hSw]; go_simp; try rfl
          try simp only [Act.put, List.getElem_toArray, List.getElem_cons_zero, List.getElem_cons_succ, List.setIfInBounds_toArray, List.set_cons_zero, List.set_cons_succ]
          refine wpAnyH_take (i := 10) (v := .slice (some ⟨g, 0, none⟩) i c1) rfl (by kernel_rfl) (by kernel_rfl) (by kernel_rfl) (fun _ _ _ h => h) (Or.inl ⟨by rfl, ?_⟩) (by assumption) ?_
          case refine_1 => intro W hSw; rw [hSw]; go_simp; try rfl
          try simp only [Act.put, List.getElem_toArray, List.getElem_cons_zero, List.getElem_cons_succ, List.setIfInBounds_toArray, List.set_cons_zero, List.set_cons_succ]
          refine wpAnyH_take (i := 11) (v := .int .i64 (i : Int)) rfl (by kernel_rfl) (by kernel_rfl) (by kernel_rfl) (fun _ _ _ h => h) (Or.inl ⟨by rfl, ?_⟩) (by assumption) ?_
          case refine_1 => intro W hSw; rw [hSw]; go_simp; try rfl
          try simp only [Act.put, List.getElem_toArray, List.getElem_cons_zero, List.getElem_cons_succ, List.setIfInBounds_toArray, List.set_cons_zero, List.set_cons_succ]
          refine wpAnyH_take (i := 12) (v := .bool false) rfl (by kernel_rfl) (by kernel_rfl) (by kernel_rfl) (fun _ _ _ h => h) (Or.inl ⟨by rfl, ?_⟩) (by assumption) ?_
          case refine_1 => intro W hSw; rw [hSw]; go_simp; try rfl
          try simp only [Act.put, List.getElem_toArray, List.getElem_cons_zero, List.getElem_cons_succ, List.setIfInBounds_toArray, List.set_cons_zero, List.set_cons_succ]
          refine wpAnyH_take (i := 13) (v := .bool false) rfl (by kernel_rfl) (by kernel_rfl) (by kernel_rfl) (fun _ _ _ h => h) (Or.inl ⟨by rfl, ?_⟩) (by assumption) ?_
          case refine_1 => intro W hSw; rw [hSw]; go_simp; try rfl
          try simp only [Act.put, List.getElem_toArray, List.getElem_cons_zero, List.getElem_cons_succ, List.setIfInBounds_toArray, List.set_cons_zero, List.set_cons_succ]
          refine wpAnyH_take (i := 14) (v := .bool false) rfl (by kernel_rfl) (by kernel_rfl) (by kernel_rfl) (fun _ _ _ h => h) (Or.inl ⟨by rfl, ?_⟩) (by assumption) ?_
          case refine_1 => intro W hSw; rw [hSw]; go_simp; try rfl
          try simp only [Act.put, List.getElem_toArray, List.getElem_cons_zero, List.getElem_cons_succ, List.setIfInBounds_toArray, List.set_cons_zero, List.set_cons_succ]
          refine wpAnyH_take (i := 15) (v := .slice (some ⟨gb, 0, none⟩) om2 oc2) rfl (by kernel_rfl) (by kernel_rfl) (by kernel_rfl) (fun _ _ _ h => h) (Or.inl ⟨by rfl, ?_⟩) (by assumption) ?_
          case refine_1 => intro W hSw; rw [hSw]; go_simp; try rfl
          try simp only [Act.put, List.getElem_toArray, List.getElem_cons_zero, List.getElem_cons_succ, List.setIfInBounds_toArray, List.set_cons_zero, List.set_cons_succ]
          refine wpAnyH_take (i := 16) (v := .int .i64 (k : Int)) rfl (by kernel_rfl) (by kernel_rfl) (by kernel_rfl) (fun _ _ _ h => h) (Or.inl ⟨by rfl, ?_⟩) (by assumption) ?_
          case refine_1 => intro W hSw; rw [hSw]; go_simp; try rfl
          try simp only [Act.put, List.getElem_toArray, List.getElem_cons_zero, List.getElem_cons_succ, List.setIfInBounds_toArray, List.set_cons_zero, List.set_cons_succ]
          refine wpAnyH_take (i := 17) (v := .pointer (some ⟨gb, k, none⟩)) rfl (by kernel_rfl) (by kernel_rfl) (by kernel_rfl) (fun _ _ _ h => h) (Or.inl ⟨by rfl, ?_⟩) (by assumption) ?_
          case refine_1 => intro W hSw; rw [hSw]; go_simp; try rfl
          try simp only [Act.put, List.getElem_toArray, List.getElem_cons_zero, List.getElem_cons_succ, List.setIfInBounds_toArray, List.set_cons_zero, List.set_cons_succ]
          refine wpAnyH_take (i := 18) (v := .int .i64 (b : Int)) rfl (by kernel_rfl) (by kernel_rfl) (by kernel_rfl) (fun _ _ _ h => h) (Or.inl ⟨by rfl, ?_⟩) (by assumption) ?_
          case refine_1 => intro W hSw; rw [hSw]; go_simp; try rfl
          try simp only [Act.put, List.getElem_toArray, List.getElem_cons_zero, List.getElem_cons_succ, List.setIfInBounds_toArray, List.set_cons_zero, List.set_cons_succ]
          refine wpAnyH_take (i := 19) (v := .bool false) rfl (by kernel_rfl) (by kernel_rfl) (by kernel_rfl) (fun _ _ _ h => h) (Or.inl ⟨by rfl, ?_⟩) (by assumption) ?_
          case refine_1 => intro W hSw; rw [hSw]; go_simp; try rfl
          try simp only [Act.put, List.getElem_toArray, List.getElem_cons_zero, List.getElem_cons_succ, List.setIfInBounds_toArray, List.set_cons_zero, List.set_cons_succ]
          refine wpAnyH_take (i := 20) (v := .bool false) rfl (by kernel_rfl) (by kernel_rfl) (by kernel_rfl) (fun _ _ _ h => h) (Or.inl ⟨by rfl, ?_⟩) (by assumption) ?_
          case refine_1 => intro W hSw; rw [hSw]; go_simp; try rfl
          try simp only [Act.put, List.getElem_toArray, List.getElem_cons_zero, List.getElem_cons_succ, List.setIfInBounds_toArray, List.set_cons_zero, List.set_cons_succ]
          refine wpAnyH_take (i := 21) (v := .bool false) rfl (by kernel_rfl) (by kernel_rfl) (by kernel_rfl) (fun _ _ _ h => h) (Or.inl ⟨by rfl, ?_⟩) (by assumption) ?_
          case refine_1 => intro W hSw; rw [hSw]; go_simp; try rfl
          try simp only [Act.put, List.getElem_toArray, List.getElem_cons_zero, List.getElem_cons_succ, List.setIfInBounds_toArray, List.set_cons_zero, List.set_cons_succ]
          refine wpAnyH_take (i := 22) (v := .slice (some ⟨gb, 0, none⟩) om2 oc2) rfl (by kernel_rfl) (by kernel_rfl) (by kernel_rfl) (fun _ _ _ h => h) (Or.inl ⟨by rfl, ?_⟩) (by assumption) ?_
          case refine_1 => intro W hSw; rw [hSw]; go_simp; try rfl
          try simp only [Act.put, List.getElem_toArray, List.getElem_cons_zero, List.getElem_cons_succ, List.setIfInBounds_toArray, List.set_cons_zero, List.set_cons_succ]
          refine wpAnyH_take (i := 23) (v := .int .i64 (k : Int)) rfl (by kernel_rfl) (by kernel_rfl) (by kernel_rfl) (fun _ _ _ h => h) (Or.inl ⟨by rfl, ?_⟩) (by assumption) ?_
          case refine_1 => intro W hSw; rw [hSw]; go_simp; try rfl
          try simp only [Act.put, List.getElem_toArray, List.getElem_cons_zero, List.getElem_cons_succ, List.setIfInBounds_toArray, List.set_cons_zero, List.set_cons_succ]
          refine wpAnyH_take (i := 24) (v := .pointer (some ⟨gb, k, none⟩)) rfl (by kernel_rfl) (by kernel_rfl) (by kernel_rfl) (fun _ _ _ h => h) (Or.inl ⟨by rfl, ?_⟩) (by assumption) ?_
          case refine_1 => intro W hSw; rw [hSw]; go_simp; try rfl
          try simp only [Act.put, List.getElem_toArray, List.getElem_cons_zero, List.getElem_cons_succ, List.setIfInBounds_toArray, List.set_cons_zero, List.set_cons_succ]
          refine wpAnyH_take (i := 25) (v := .int .i64 (b : Int)) rfl (by kernel_rfl) (by kernel_rfl) (by kernel_rfl) (fun _ _ _ h => h) (Or.inl ⟨by rfl, ?_⟩) (by assumption) ?_
          case refine_1 => intro W hSw; rw [hSw]; go_simp; try rfl
          try simp only [Act.put, List.getElem_toArray, List.getElem_cons_zero, List.getElem_cons_succ, List.setIfInBounds_toArray, List.set_cons_zero, List.set_cons_succ]
          refine wpAnyH_take (i := 26) (v := .slice (some ⟨g2, 0, none⟩) i c2) rfl (by kernel_rfl) (by kernel_rfl) (by kernel_rfl) (fun _ _ _ h => h) (Or.inl ⟨by rfl, ?_⟩) (by assumption) ?_
          case refine_1 => intro W hSw; rw [hSw]; go_simp; try rfl
          try simp only [Act.put, List.getElem_toArray, List.getElem_cons_zero, List.getElem_cons_succ, List.setIfInBounds_toArray, List.set_cons_zero, List.set_cons_succ]
          refine wpAnyH_take (i := 27) (v := .int .i64 (i : Int)) rfl (by kernel_rfl) (by kernel_rfl) (by kernel_rfl) (fun _ _ _ h => h) (Or.inl ⟨by rfl, ?_⟩) (by assumption) ?_
          case refine_1 => intro W hSw; rw [hSw]; go_simp; try rfl
          try simp only [Act.put, List.getElem_toArray, List.getElem_cons_zero, List.getElem_cons_succ, List.setIfInBounds_toArray, List.set_cons_zero, List.set_cons_succ]
          refine wpAnyH_take (i := 28) (v := .bool false) rfl (by kernel_rfl) (by kernel_rfl) (by kernel_rfl) (fun _ _ _ h => h) (Or.inl ⟨by rfl, ?_⟩) (by assumption) ?_
          case refine_1 => intro W hSw; rw [hSw]; go_simp; try rfl
          try simp only [Act.put, List.getElem_toArray, List.getElem_cons_zero, List.getElem_cons_succ, List.setIfInBounds_toArray, List.set_cons_zero, List.set_cons_succ]
          refine wpAnyH_take (i := 29) (v := .bool false) rfl (by kernel_rfl) (by kernel_rfl) (by kernel_rfl) (fun _ _ _ h => h) (Or.inl ⟨by rfl, ?_⟩) (by assumption) ?_
          case refine_1 => intro W hSw; rw [hSw]; go_simp; try rfl
          try simp only [Act.put, List.getElem_toArray, List.getElem_cons_zero, List.getElem_cons_succ, List.setIfInBounds_toArray, List.set_cons_zero, List.set_cons_succ]
          refine wpAnyH_take (i := 30) (v := .bool false) rfl (by kernel_rfl) (by kernel_rfl) (by kernel_rfl) (fun _ _ _ h => h) (Or.inl ⟨by rfl, ?_⟩) (by assumption) ?_
          case refine_1 => intro W hSw; rw [hSw]; go_simp; try rfl
          try simp only [Act.put, List.getElem_toArray, List.getElem_cons_zero, List.getElem_cons_succ, List.setIfInBounds_toArray, List.set_cons_zero, List.set_cons_succ]
          refine wpAnyH_take (i := 31) (v := .slice (some ⟨g, 0, none⟩) i c1) rfl (by kernel_rfl) (by kernel_rfl) (by kernel_rfl) (fun _ _ _ h => h) (Or.inl ⟨by rfl, ?_⟩) (by assumption) ?_
          case refine_1 => intro W hSw; rw [hSw]; go_simp; try rfl
          try simp only [Act.put, List.getElem_toArray, List.getElem_cons_zero, List.getElem_cons_succ, List.setIfInBounds_toArray, List.set_cons_zero, List.set_cons_succ]
          refine wpAnyH_take (i := 32) (v := .slice (some ⟨ga, 0, none⟩) om2 oc) rfl (by kernel_rfl) (by kernel_rfl) (by kernel_rfl) (fun _ _ _ h => h) (Or.inl ⟨by rfl, ?_⟩) (by assumption) ?_
          case refine_1 => intro W hSw; rw [hSw]; go_simp; try rfl
          try simp only [Act.put, List.getElem_toArray, List.getElem_cons_zero, List.getElem_cons_succ, List.setIfInBounds_toArray, List.set_cons_zero, List.set_cons_succ]
          refine wpAnyH_take (i := 33) (v := .int .i64 (k : Int)) rfl (by kernel_rfl) (by kernel_rfl) (by kernel_rfl) (fun _ _ _ h => h) (Or.inl ⟨by rfl, ?_⟩) (by assumption) ?_
          case refine_1 => intro W hSw; rw [hSw]; go_simp; try rfl
          try simp only [Act.put, List.getElem_toArray, List.getElem_cons_zero, List.getElem_cons_succ, List.setIfInBounds_toArray, List.set_cons_zero, List.set_cons_succ]
          refine wpAnyH_take (i := 34) (v := .pointer (some ⟨ga, k, none⟩)) rfl (by kernel_rfl) (by kernel_rfl) (by kernel_rfl) (fun _ _ _ h => h) (Or.inl ⟨by rfl, ?_⟩) (by assumption) ?_
          case refine_1 => intro W hSw; rw [hSw]; go_simp; try rfl
          try simp only [Act.put, List.getElem_toArray, List.getElem_cons_zero, List.getElem_cons_succ, List.setIfInBounds_toArray, List.set_cons_zero, List.set_cons_succ]
          refine wpAnyH_take (i := 35) (v := .int .i64 (a : Int)) rfl (by kernel_rfl) (by kernel_rfl) (by kernel_rfl) (fun _ _ _ h => h) (Or.inl ⟨by rfl, ?_⟩) (by assumption) ?_
          case refine_1 => intro W hSw; rw [hSw]; go_simp; try rfl
          try simp only [Act.put, List.getElem_toArray, List.getElem_cons_zero, List.getElem_cons_succ, List.setIfInBounds_toArray, List.set_cons_zero, List.set_cons_succ]
          refine wpAnyH_take (i := 36) (v := .pointer (some ⟨g, a * 13, none⟩)) rfl (by kernel_rfl) (by kernel_rfl) (by kernel_rfl) (fun _ _ _ h => h) (Or.inl ⟨by rfl, ?_⟩) (by assumption) ?_
          case refine_1 => intro W hSw; rw [hSw]; go_simp; try rfl
          try simp only [Act.put, List.getElem_toArray, List.getElem_cons_zero, List.getElem_cons_succ, List.setIfInBounds_toArray, List.set_cons_zero, List.set_cons_succ]
          refine wpAnyH_take (i := 37) (v := .pointer (some ⟨g, a * 13 + 10, none⟩)) rfl (by kernel_rfl) (by kernel_rfl) (by kernel_rfl) (fun _ _ _ h => h) (Or.inl ⟨by rfl, ?_⟩) (by assumption) ?_
          case refine_1 => intro W hSw; rw [hSw]; go_simp; try rfl
          try simp only [Act.put, List.getElem_toArray, List.getElem_cons_zero, List.getElem_cons_succ, List.setIfInBounds_toArray, List.set_cons_zero, List.set_cons_succ]
          refine wpAnyH_take (i := 38) (v := .int .i64 (a : Int)) rfl (by kernel_rfl) (by kernel_rfl) (by kernel_rfl) (fun _ _ _ h => h) (Or.inl ⟨by rfl, ?_⟩) (by assumption) ?_
          case refine_1 => intro W hSw; rw [hSw]; go_simp; try rfl
          try simp only [Act.put, List.getElem_toArray, List.getElem_cons_zero, List.getElem_cons_succ, List.setIfInBounds_toArray, List.set_cons_zero, List.set_cons_succ]
          refine wpAnyH_take (i := 39) (v := .slice (some ⟨g2, 0, none⟩) i c2) rfl (by kernel_rfl) (by kernel_rfl) (by kernel_rfl) (fun _ _ _ h => h) (Or.inl ⟨by rfl, ?_⟩) (by assumption) ?_
          case refine_1 => intro W hSw; rw [hSw]; go_simp; try rfl
          try simp only [Act.put, List.getElem_toArray, List.getElem_cons_zero, List.getElem_cons_succ, List.setIfInBounds_toArray, List.set_cons_zero, List.set_cons_succ]
          refine wpAnyH_take (i := 40) (v := .slice (some ⟨gb, 0, none⟩) om2 oc2) rfl (by kernel_rfl) (by kernel_rfl) (by kernel_rfl) (fun _ _ _ h => h) (Or.inl ⟨by rfl, ?_⟩) (by assumption) ?_
          case refine_1 => intro W hSw; rw [hSw]; go_simp; try rfl
          try simp only [Act.put, List.getElem_toArray, List.getElem_cons_zero, List.getElem_cons_succ, List.setIfInBounds_toArray, List.set_cons_zero, List.set_cons_succ]
          refine wpAnyH_take (i := 41) (v := .int .i64 (k : Int)) rfl (by kernel_rfl) (by kernel_rfl) (by kernel_rfl) (fun _ _ _ h => h) (Or.inl ⟨by rfl, ?_⟩) (by assumption) ?_
          case refine_1 => intro W hSw; rw [hSw]; go_simp; try rfl
          try simp only [Act.put, List.getElem_toArray, List.getElem_cons_zero, List.getElem_cons_succ, List.setIfInBounds_toArray, List.set_cons_zero, List.set_cons_succ]
          refine wpAnyH_take (i := 42) (v := .pointer (some ⟨gb, k, none⟩)) rfl (by kernel_rfl) (by kernel_rfl) (by kernel_rfl) (fun _ _ _ h => h) (Or.inl ⟨by rfl, ?_⟩) (by assumption) ?_
          case refine_1 => intro W hSw; rw [hSw]; go_simp; try rfl
          try simp only [Act.put, List.getElem_toArray, List.getElem_cons_zero, List.getElem_cons_succ, List.setIfInBounds_toArray, List.set_cons_zero, List.set_cons_succ]
          refine wpAnyH_take (i := 43) (v := .int .i64 (b : Int)) rfl (by kernel_rfl) (by kernel_rfl) (by kernel_rfl) (fun _ _ _ h => h) (Or.inl ⟨by rfl, ?_⟩) (by assumption) ?_
          case refine_1 => intro W hSw; rw [hSw]; go_simp; try rfl
          try simp only [Act.put, List.getElem_toArray, List.getElem_cons_zero, List.getElem_cons_succ, List.setIfInBounds_toArray, List.set_cons_zero, List.set_cons_succ]
          refine wpAnyH_take (i := 44) (v := .pointer (some ⟨g2, b * 13, none⟩)) rfl (by kernel_rfl) (by kernel_rfl) (by kernel_rfl) (fun _ _ _ h => h) (Or.inl ⟨by rfl, ?_⟩) (by assumption) ?_
          case refine_1 => intro W hSw; rw [hSw]; go_simp; try rfl
          try simp only [Act.put, List.getElem_toArray, List.getElem_cons_zero, List.getElem_cons_succ, List.setIfInBounds_toArray, List.set_cons_zero, List.set_cons_succ]
          refine wpAnyH_take (i := 45) (v := .pointer (some ⟨g2, b * 13 + 10, none⟩)) rfl (by kernel_rfl) (by kernel_rfl) (by kernel_rfl) (fun _ _ _ h => h) (Or.inl ⟨by rfl, ?_⟩) (by assumption) ?_
          case refine_1 => intro W hSw; rw [hSw]; go_simp; try rfl
          try simp only [Act.put, List.getElem_toArray, List.getElem_cons_zero, List.getElem_cons_succ, List.setIfInBounds_toArray, List.set_cons_zero, List.set_cons_succ]
          refine wpAnyH_take (i := 46) (v := .int .i64 (a : Int)) rfl (by kernel_rfl) (by kernel_rfl) (by kernel_rfl) (fun _ _ _ h => h) (Or.inl ⟨by rfl, ?_⟩) (by assumption) ?_
          case refine_1 => intro W hSw; rw [hSw]; go_simp; try rfl
          try simp only [Act.put, List.getElem_toArray, List.getElem_cons_zero, List.getElem_cons_succ, List.setIfInBounds_toArray, List.set_cons_zero, List.set_cons_succ]
          refine wpAnyH_take (i := 47) (v := .bool false) rfl (by kernel_rfl) (by kernel_rfl) (by kernel_rfl) (fun _ _ _ h => h) (Or.inl ⟨by rfl, ?_⟩) (by assumption) ?_
          case refine_1 => intro W hSw; rw [hSw]; go_simp; try rfl
          try simp only [Act.put, List.getElem_toArray, List.getElem_cons_zero, List.getElem_cons_succ, List.setIfInBounds_toArray, List.set_cons_zero, List.set_cons_succ]
          refine wpAnyH_take (i := 48) (v := .bool false) rfl (by kernel_rfl) (by kernel_rfl) (by kernel_rfl) (fun _ _ _ h => h) (Or.inl ⟨by rfl, ?_⟩) (by assumption) ?_
          case refine_1 => intro W hSw; rw [hSw]; go_simp; try rfl
          try simp only [Act.put, List.getElem_toArray, List.getElem_cons_zero, List.getElem_cons_succ, List.setIfInBounds_toArray, List.set_cons_zero, List.set_cons_succ]
          refine wpAnyH_done (by kernel_rfl) ?_ _
          clear hHeld d1 d2 d3 d4
          go_wp2_with fail
          refine ⟨⟨⟨k + 1, by omega, by simp⟩, HB8.out⟩, ?_⟩
          simp [intOf]
          omega
        have hkk : ¬ (k : Int) < (om2 : Int) := by omega
        have HBw6 : Hid (Below w5.heap.size w5 wt) := HB6.out.trans (HB7.out.mono HB6.out.size)
        have HEND : Hid (Below w.heap.size w wt) := HBW.out.trans ((HB5.out.trans (HBw6.out.mono HB5.out.size)).mono HBW.out.size)
        have HQT : Hid (Cq N2 g2 wt zs) := HQB.out.bel HBw6.out
        go_wp2_with fail
        refine (best_any (some ⟨g2, 0, none⟩) i c2 zs hl2 (by omega) wt (ofs_of2 (HQT.out.row.lst (by omega)) HQT.out.oks) (bsI (qs.head?)) (by rw [HHD.out])).mono ?_
        rintro e w8 ⟨rfl, hb8⟩
        have HE8 : Hid (Below w.heap.size w w8) := HEND.out.trans (hb8.mono HEND.out.size)
        have HB68 : Hid (Below w6.heap.size w6 w8) := HB7.out.trans (hb8.mono HB7.out.size)
        clear hb8
        by_cases hom : om2 = 0
        case pos =>
          subst hom
          have hq0 : bsI qs.head? = -1 := by rw [List.length_eq_zero_iff.1 HLEN.out.2]; rfl
          rw [hq0]
          go_wp2_with fail
          go_ret
          exact ⟨rfl, HE8.out⟩
        rcases HR6.out with h0 | ⟨gb, rfl, hgb, hrb⟩
        · omega
        have hq0 : 0 < qs.length := by rw [HLEN.out.2]; omega
        obtain ⟨z, hz⟩ : ∃ y, qs[0] = y := ⟨_, rfl⟩
        have hqh : bsI qs.head? = (z : Int) := by
          rw [List.head?_eq_getElem?, List.getElem?_eq_getElem hq0, hz]
          rfl
        have d5 : w8.cell? ⟨gb, 0, none⟩ = some (.int .i64 (z : Int)) := by rw [← hz]; exact ((hrb.bel HB68.out).at_ 0 hq0).1
        have om0 : ¬ (om2 : Int) = 0 := by omega
        have om1 : (0 : Int) < (om2 : Int) := by omega
        rw [hqh]
        clear hz hq0 hqh hrb
        go_wp2_with fail
        go_ret
        exact ⟨rfl, HE8.out⟩
end Go.Proofs.Ytkahjibdmhaglaa.Ch
