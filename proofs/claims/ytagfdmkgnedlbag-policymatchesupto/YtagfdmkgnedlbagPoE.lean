/- machine.build: what it builds. -/
import Derived.Test.YtagfdmkgnedlbagPoD
import Derived.StillTailTactics
namespace Go.Proofs.Ytagfdmkgnedlbag.Po
open Go.ChangeShapes Go.WideShapes Go.ChangeAt Go.RowKit Go.Joins Go.Proofs.Ytagfdmkgnedlbag.Ge
set_option linter.unusedVariables false

def zs (l : List Pat) : Nat := (l.map sz).sum
theorem zs_cons (p : Pat) (l : List Pat) : zs (p :: l) = sz p + zs l := by simp [zs]
theorem zs_app (l m : List Pat) : zs (l ++ m) = zs l + zs m := by simp [zs]
theorem zs_split (l : List Pat) (i : Nat) : zs (l.take i) + zs (l.drop i) = zs l := by rw [← zs_app, List.take_append_drop]
theorem zs_at (l : List Pat) (i : Nat) (h : i < l.length) : zs (l.drop i) = sz l[i] + zs (l.drop (i + 1)) ∧ zs (l.take (i + 1)) = zs (l.take i) + sz l[i] := by
  refine ⟨by rw [List.drop_eq_getElem_cons h, zs_cons], by rw [List.take_succ_eq_append_getElem h, zs_app]; simp [zs]⟩
/-- one part of a pattern in memory -/
theorem PA.at {w : World} {N : Nat} {k n : Int} {sub : List Pat} {a : Option Addr} (h : PA w N (.mk k n sub) a) {i : Nat} (hi : i < sub.length) : ∃ b o a' c', a = some ⟨b, o, none⟩ ∧ b < N ∧ w.cell? ⟨b, o + i * 3, none⟩ = some (.int .i64 sub[i].kind) ∧ w.cell? ⟨b, o + i * 3 + 1, none⟩ = some (.int .i64 sub[i].num) ∧ w.cell? ⟨b, o + i * 3 + 2, none⟩ = some (.slice a' sub[i].sub.length c') ∧ PA w N sub[i] a' := by
  cases h with
  | mk b o av cv h1 h2 =>
    obtain ⟨e, hl, c0, c1, c2⟩ := h1 i hi
    exact ⟨b, o, av i, cv i, e, hl, c0, c1, c2, h2 i hi⟩
set_option maxRecDepth 100000 in
set_option maxHeartbeats 8000000 in
theorem build_any (N bm : Nat) : ∀ (z : Nat) (p : Pat), sz p ≤ z → Bc p N bm := by
  intro z
  induction z with
  | zero => intro p hz; have := sz_pos p; omega
  | succ z ih =>
    intro p hz S e own a c w hM ho h2 he hbig hp
    have HIH : Hid (∀ q : Pat, sz q ≤ z → Bc q N bm) := ih
    have HSZ : Hid (∀ q ∈ p.sub, sz q ≤ z) := fun q hq => by have := sz_sub hq; omega
    have HOK : Hid (OkS S S.length) := ho
    have hNb := hM.lo
    have hbl := hM.lt
    have hol := hM.olt
    obtain ⟨k, n, sub⟩ := p
    obtain ⟨ln, hln⟩ : ∃ l, sub.length = l := ⟨_, rfl⟩
    unfold pv
    dsimp only [Pat.kind, Pat.num, Pat.sub] at HSZ ⊢
    rw [hln]
    have hlnb : ln ≤ 1099511627775 := by
      have h1 := sz_mk k n sub
      have h3 : ∀ l : List Pat, l.length ≤ (l.map sz).sum := fun l => by
        induction l with
        | nil => simp
        | cons x l ih => simp only [List.map_cons, List.sum_cons, List.length_cons]; have := sz_pos x; omega
      have := h3 sub
      omega
    obtain ⟨w0, hw0⟩ : ∃ w0, w.alloc (Obj.cells #[.int .i64 k, .int .i64 n, .slice a ln c] 24) = w0 := ⟨_, rfl⟩
    have hb0 : Below w.heap.size w w0 := by rw [← hw0]; exact (Below.refl _ w).alloc (Nat.le_refl _) _
    have hx0 : w0.heap[w.heap.size]? = some (Obj.cells #[.int .i64 k, .int .i64 n, .slice a ln c] 24) := by rw [← hw0]; exact World.alloc_heap_new w _
    have hs0 : w0.heap.size = w.heap.size + 1 := by rw [← hw0]; simp
    have HM0 : Hid (Mc N w0 bm S own) := hM.bel hb0
    have HP : Hid (PA w0 N (.mk k n sub) a) := hp.bel (hb0.mono (by omega))
    have HK0 : Hid (Kw bm w own w0 own) := Kw.bel hb0
    obtain ⟨sb, hsb⟩ : ∃ s, w.heap.size = s := ⟨_, rfl⟩
    rw [hsb] at hx0
    obtain ⟨x0, x1, x2⟩ := cell_three hx0
    have HX0 : Hid (w0.heap[sb]? = some (Obj.cells #[.int .i64 k, .int .i64 n, .slice a ln c] 24)) := hx0
    clear hM ho hp ih hb0 hx0
    by_cases k1 : k = 1
    · subst k1
      have HC := add_any N bm S ⟨2, n, (e : Int), 0⟩ own (by omega) w0 HM0.out
      go_enter Try.func15, Try.ntmps15
      go_wp2_with fail
      refine HC.mono ?_
      rintro r w1 ⟨rfl, own1, hM1, hk1⟩
      have HM1 : Hid _ := hM1
      have HK1 : Hid (Kw bm w own w1 own1) := HK0.out.trans hk1
      clear hM1 hk1 HC
      go_wp2_with fail
      go_ret
      refine ⟨_, S.length, own1, rfl, ?_, HM1.out, HK1.out⟩
      exact built_num HOK.out h2 he (by show (2 : Int) ≠ 4; decide) rfl rfl (fun w => by rw [lang_num]; simp) (by have := sz_pos (.mk 1 n sub); omega)
    by_cases k2 : k = 2
    · subst k2
      have HC := add_any N bm S ⟨3, 0, (e : Int), 0⟩ own (by omega) w0 HM0.out
      go_enter Try.func15, Try.ntmps15
      go_wp2_with fail
      refine HC.mono ?_
      rintro r w1 ⟨rfl, own1, hM1, hk1⟩
      have HM1 : Hid _ := hM1
      have HK1 : Hid (Kw bm w own w1 own1) := HK0.out.trans hk1
      clear hM1 hk1 HC
      go_wp2_with fail
      go_ret
      refine ⟨_, S.length, own1, rfl, ?_, HM1.out, HK1.out⟩
      exact built_num HOK.out h2 he (by show (3 : Int) ≠ 4; decide) rfl rfl (fun w => by rw [lang_any]; simp) (by have := sz_pos (.mk 2 n sub); omega)
    by_cases k3 : k = 3
    · subst k3
      go_enter Try.func15, Try.ntmps15
      go_wp2_with fail
      go_loopw [2, 7] (fun ev iv wr => ∃ (j b : Nat) (S1 : List St) (own1 : Option Nat), j ≤ ln ∧ iv = .int .i64 ((j : Int) - 1) ∧ ev = .int .i64 (b : Int) ∧ Built (Lang (.mk 3 n (sub.drop j))) (2 * zs (sub.drop j)) S S1 b e ∧ Mc N wr bm S1 own1 ∧ Kw bm w0 own wr own1) (fun _ i _ => (intOf i + 1).toNat)
      case atStart => exact ⟨ln, e, S, own, Nat.le_refl _, rfl, rfl, by rw [← hln, List.drop_length]; exact built_eps HOK.out he (fun w => lang_nil n w), HM0.out, Kw.refl _ _ _⟩
      case round =>
        obtain ⟨j, b, S1, own1, hj, rfl, rfl, hB, hM, hK⟩ := hrel
        have HB : Hid (Built (Lang (.mk 3 n (sub.drop j))) (2 * zs (sub.drop j)) S S1 b e) := hB
        have HM : Hid (Mc N wr bm S1 own1) := hM
        have HK : Hid (Kw bm w0 own wr own1) := hK
        have hxr : wr.heap[sb]? = some (Obj.cells #[.int .i64 3, .int .i64 n, .slice a ln c] 24) := (hK.block sb (by omega) (by omega) (fun e => by have := (hol sb e.symm).2; omega)).trans HX0.out
        obtain ⟨y0, y1, y2⟩ := cell_three hxr
        clear hB hM hK hxr
        cases j with
        | succ j =>
          have e0 : ((j + 1 : Nat) : Int) - 1 = (j : Int) := by omega
          rw [e0]
          have hjl : j < sub.length := by omega
          obtain ⟨pb, po, a', c', rfl, hpb, c0, c1, c2, hpa⟩ := (HP.out.bel (HM0.out.under HK.out)).at hjl
          have hjj : (j : Int) < ln := by omega
          have jj0 : (0 : Int) ≤ j := by omega
          obtain ⟨d1, d2⟩ := zs_at sub j hjl
          have d3 := zs_split sub j
          have d4 : sz (.mk 3 n sub) = 1 + zs sub := sz_mk 3 n sub
          have hfew := HB.out.few
          have hle := HB.out.le
          have HC := HIH.out sub[j] (HSZ.out _ (List.getElem_mem hjl)) S1 b own1 a' c' wr HM.out HB.out.ok (by omega) HB.out.lt (by omega) hpa
          have HD : Hid (sub.drop j = sub[j] :: sub.drop (j + 1)) := List.drop_eq_getElem_cons hjl
          obtain ⟨q, hq⟩ : ∃ q, sub[j] = q := ⟨_, rfl⟩
          rw [hq] at HC c0 c1 c2 HD d1
          obtain ⟨qk, qn, qs⟩ := q
          unfold pv at HC
          dsimp only [Pat.kind, Pat.num, Pat.sub] at HC c0 c1 c2
          obtain ⟨ql, hql⟩ : ∃ l, qs.length = l := ⟨_, rfl⟩
          rw [hql] at HC c2
          clear hpa e0 hq d2
          go_wp2_with fail
          refine HC.mono ?_
          rintro r w1 ⟨S2, b2, own2, rfl, hB2, hM2, hk2⟩
          have HBN : Hid (Built (Lang (.mk 3 n (sub.drop j))) (2 * zs (sub.drop j)) S S2 b2 e) := by
            have h1 := built_cat (L := Lang (.mk 3 n (sub.drop j))) (z := 2 * zs (sub.drop j)) HB.out hB2 (fun w => by rw [HD.out]; exact lang_cons n _ _ w) (by rw [d1]; omega)
            exact h1
          have HM2 : Hid (Mc N w1 bm S2 own2) := hM2
          have HK2 : Hid (Kw bm w0 own w1 own2) := HK.out.trans hk2
          clear hB2 hM2 hk2 HC
          go_wp2_with fail
          exact ⟨⟨j, b2, S2, own2, by omega, rfl, rfl, HBN.out, HM2.out, HK2.out⟩, by simp [intOf]⟩
        | zero =>
          have e0 : ((0 : Nat) : Int) - 1 = -1 := rfl
          rw [e0]
          go_wp2_with fail
          go_ret
          have d4 : sz (.mk 3 n sub) = 1 + zs sub := sz_mk 3 n sub
          exact ⟨S1, b, own1, rfl, HB.out.weak (fun w => Iff.rfl) (by rw [d4, List.drop_zero]; omega), HM.out, HK0.out.trans HK.out⟩
    by_cases k4 : k = 4
    · subst k4
      go_enter Try.func15, Try.ntmps15
      go_wp2_with fail
      go_loopw [8, 51] (fun bv iv wr => ∃ (j b : Nat) (S1 : List St) (own1 : Option Nat), j ≤ ln ∧ iv = .int .i64 (j : Int) ∧ bv = .int .i64 (b : Int) ∧ Built (fun w => ∃ q ∈ sub.take j, Lang q w) (2 * zs (sub.take j)) S S1 b e ∧ Mc N wr bm S1 own1 ∧ Kw bm w0 own wr own1) (fun _ i _ => ln - (intOf i).toNat)
      case atStart => exact ⟨0, 1, S, own, Nat.zero_le _, rfl, rfl, built_dead HOK.out h2 (fun w => by simp), HM0.out, Kw.refl _ _ _⟩
      case round =>
        obtain ⟨j, b, S1, own1, hj, rfl, rfl, hB, hM, hK⟩ := hrel
        have HB : Hid (Built (fun w => ∃ q ∈ sub.take j, Lang q w) (2 * zs (sub.take j)) S S1 b e) := hB
        have HM : Hid (Mc N wr bm S1 own1) := hM
        have HK : Hid (Kw bm w0 own wr own1) := hK
        clear hB hM hK
        by_cases hlt : j < ln
        · have hjl : j < sub.length := by omega
          obtain ⟨pb, po, a', c', rfl, hpb, c0, c1, c2, hpa⟩ := (HP.out.bel (HM0.out.under HK.out)).at hjl
          have hjj : (j : Int) < ln := by omega
          have jj0 : (0 : Int) ≤ j := by omega
          obtain ⟨d1, d2⟩ := zs_at sub j hjl
          have d3 := zs_split sub j
          have d4 : sz (.mk 4 n sub) = 1 + zs sub := sz_mk 4 n sub
          have hfew := HB.out.few
          have hle := HB.out.le
          have hsq := sz_pos sub[j]
          have HIQ : Hid (Bc sub[j] N bm) := HIH.out sub[j] (HSZ.out _ (List.getElem_mem hjl))
          have HD : Hid (sub.take (j + 1) = sub.take j ++ [sub[j]]) := List.take_succ_eq_append_getElem hjl
          obtain ⟨q, hq⟩ : ∃ q, sub[j] = q := ⟨_, rfl⟩
          have HPA : Hid (PA wr N q a') := by rw [← hq]; exact hpa
          rw [hq] at HIQ c0 c1 c2 HD d1 d2 hsq
          obtain ⟨qk, qn, qs⟩ := q
          dsimp only [Pat.kind, Pat.num, Pat.sub] at c0 c1 c2
          obtain ⟨ql, hql⟩ : ∃ l, qs.length = l := ⟨_, rfl⟩
          rw [hql] at c2
          clear hpa hq
          obtain ⟨wA, hwA⟩ : ∃ wA, wr.alloc (Obj.cells #[.int .i64 qk, .int .i64 qn, .slice a' ql c'] 24) = wA := ⟨_, rfl⟩
          have hbA : Below wr.heap.size wr wA := by rw [← hwA]; exact (Below.refl _ wr).alloc (Nat.le_refl _) _
          have hltr := HM.out.lt
          have HC := HIQ.out S1 e own1 a' c' wA (HM.out.bel hbA) HB.out.ok (by omega) (by omega) (by omega) (HPA.out.bel (hbA.mono (by omega)))
          have HKA : Hid (Kw bm w0 own wA own1) := HK.out.trans (Kw.bel hbA)
          unfold pv at HC
          dsimp only [Pat.kind, Pat.num, Pat.sub] at HC
          rw [hql] at HC
          obtain ⟨sA, hsA⟩ : ∃ s, wr.heap.size = s := ⟨_, rfl⟩
          have hxA : wA.heap[sA]? = some (Obj.cells #[.int .i64 qk, .int .i64 qn, .slice a' ql c'] 24) := by rw [← hwA, ← hsA]; exact World.alloc_heap_new wr _
          obtain ⟨z0, z1, z2⟩ := cell_three hxA
          clear hbA hxA
          go_wp2_with fail
          refine HC.mono ?_
          rintro r w1 ⟨S2, b2, own2, rfl, hB2, hM2, hk2⟩
          have hf2 := hB2.few
          have HF := fork_any N bm S2 (b2 : Int) (b : Int) own2 (by omega) w1 hM2
          have HBN : Hid (Built (fun w => ∃ q ∈ sub.take (j + 1), Lang q w) (2 * zs (sub.take (j + 1))) S (S2 ++ [⟨4, 0, (b2 : Int), (b : Int)⟩]) S2.length e) := by
            refine built_fork h2 HB.out hB2 rfl rfl rfl (fun w => ?_) (by omega)
            rw [HD.out]
            simp only [List.mem_append, List.mem_singleton]
            constructor
            · rintro ⟨q, h1 | h1, h3⟩
              · exact .inr ⟨q, h1, h3⟩
              · subst h1; exact .inl h3
            · rintro (h1 | ⟨q, h1, h3⟩)
              · exact ⟨_, .inr rfl, h1⟩
              · exact ⟨q, .inl h1, h3⟩
          have HK2 : Hid (Kw bm w0 own w1 own2) := HKA.out.trans hk2
          clear hB2 hM2 hk2 HC
          go_wp2_with fail
          refine HF.mono ?_
          rintro r w2 ⟨rfl, own3, hM3, hk3⟩
          have HM3 : Hid _ := hM3
          have HK3 : Hid (Kw bm w0 own w2 own3) := HK2.out.trans hk3
          clear hM3 hk3 HF
          go_wp2_with fail
          exact ⟨⟨j + 1, S2.length, _, own3, by omega, by simp, rfl, HBN.out, HM3.out, HK3.out⟩, by simp [intOf]; omega⟩
        · obtain rfl : j = ln := by omega
          go_wp2_with fail
          go_ret
          have d4 : sz (.mk 4 n sub) = 1 + zs sub := sz_mk 4 n sub
          exact ⟨S1, b, own1, rfl, HB.out.weak (fun w => by rw [lang_alt, ← hln, List.take_length]) (by rw [d4, ← hln, List.take_length]; omega), HM.out, HK0.out.trans HK.out⟩
    by_cases k57 : k = 5 ∨ k = 6 ∨ k = 7
    · by_cases h1 : ln = 1
      · subst h1
        obtain ⟨p, rfl⟩ := List.length_eq_one_iff.1 hln
        obtain ⟨pb, po, a', c', rfl, hpb, c0, c1, c2, hpa⟩ := HP.out.at (i := 0) (by simp)
        simp only [List.getElem_cons_zero, Nat.zero_mul, Nat.add_zero] at c0 c1 c2 hpa
        have d4 : sz (.mk k n [p]) = 1 + sz p := by rw [sz_mk]; simp
        have HC := fun (W : World) (hW : Below w0.heap.size w0 W) => repeat_any p N bm (HIH.out p (HSZ.out p (by simp))) k k57 n S e own a' c' W (HM0.out.bel hW) HOK.out h2 he (by omega) (hpa.bel (hW.mono (by omega)))
        obtain ⟨qk, qn, qs⟩ := p
        dsimp only [Pat.kind, Pat.num, Pat.sub] at c0 c1 c2
        obtain ⟨ql, hql⟩ : ∃ l, qs.length = l := ⟨_, rfl⟩
        rw [hql] at c2
        unfold pv at HC
        dsimp only [Pat.kind, Pat.num, Pat.sub] at HC
        rw [hql] at HC
        clear hpa
        rcases k57 with rfl | rfl | rfl
        all_goals
          go_enter Try.func15, Try.ntmps15
          go_wp2_with fail
          go_still_tail 8, (by kernel_rfl)
          go_wp2_with fail
          have HWQ : Hid (∀ d : Nat, Below w0.heap.size w0 (w0.drewN d)) := fun d => ⟨rfl, rfl, rfl, Nat.le_refl _, fun _ _ => rfl⟩
          refine (HC _ (HWQ.out 1)).mono ?_
          rintro r w1 ⟨S1, b1, own1, rfl, hB1, hM1, hk1⟩
          have HB1 : Hid _ := hB1
          have HM1 : Hid (Mc N w1 bm S1 own1) := hM1
          have HK1 : Hid (Kw bm w own w1 own1) := (HK0.out.trans (Kw.bel (HWQ.out 1))).trans hk1
          clear hB1 hM1 hk1 HC
          go_wp2_with fail
          go_ret
          exact ⟨S1, b1, own1, rfl, HB1.out.weak (fun w => Iff.rfl) (by omega), HM1.out, HK1.out⟩
      · have HN : Hid (∀ w, ¬ Lang (.mk k n sub) w) := fun w => lang_none (.inr ⟨by omega, by omega, by omega⟩) w
        have h1' : ¬ ((ln : Int) = 1) := by omega
        rcases k57 with rfl | rfl | rfl
        all_goals
          go_enter Try.func15, Try.ntmps15
          go_wp2_with fail
          go_ret
          exact ⟨S, 1, own, rfl, built_dead HOK.out h2 HN.out, HM0.out, HK0.out⟩
    · have HN : Hid (∀ w, ¬ Lang (.mk k n sub) w) := fun w => lang_none (.inl (by omega)) w
      have k5 : ¬ k = 5 := by omega
      have k6 : ¬ k = 6 := by omega
      have k7 : ¬ k = 7 := by omega
      go_enter Try.func15, Try.ntmps15
      go_wp2_with fail
      go_ret
      exact ⟨S, 1, own, rfl, built_dead HOK.out h2 HN.out, HM0.out, HK0.out⟩
end Go.Proofs.Ytagfdmkgnedlbag.Po
