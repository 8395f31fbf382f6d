/- The document's polEnds: what it answers. -/
import Derived.Test.YtagfdmkgnedlbagPoP
namespace Go.Proofs.Ytagfdmkgnedlbag.Po
open Go.ChangeShapes Go.WideShapes Go.ChangeAt Go.RowKit Go.Joins Go.Proofs.Ytagfdmkgnedlbag.Ge
set_option linter.unusedVariables false

set_option maxRecDepth 100000 in
set_option maxHeartbeats 8000000 in
theorem ends_any : ∀ (z : Nat) (p : Pat), sz p ≤ z → Ec p := by
  intro z
  induction z with
  | zero => intro p hz; have := sz_pos p; omega
  | succ z ih =>
    intro p hz xs ln F a va vf c ca cf w hln hF hl20 hszp hp hx hf
    have HIH : Hid (∀ q : Pat, sz q ≤ z → Ec q) := ih
    have HSZ : Hid (∀ q ∈ p.sub, sz q ≤ z) := fun q hq => by have := sz_sub hq; omega
    have HX : Hid (Lst EI w va xs) := hx
    have HFF : Hid (Lst EB w vf F) := hf
    have HLN : Hid (xs.length = ln) := hln
    have HFL : Hid (F.length = ln + 1) := hF
    obtain ⟨k, n, sub⟩ := p
    by_cases h56 : (k = 5 ∨ k = 6) ∧ sub.length = 1
    · obtain ⟨k56, h1⟩ := h56
      obtain ⟨p0, rfl⟩ := List.length_eq_one_iff.1 h1
      exact rep_any p0 (HIH.out p0 (HSZ.out p0 (by simp [Pat.sub]))) k n k56 xs ln F a va vf c ca cf w hln hF hl20 hszp hp hx hf
    obtain ⟨pl, hpl⟩ : ∃ l, sub.length = l := ⟨_, rfl⟩
    have hpl63 : pl ≤ 9223372036854775807 := by
      have h1 := sz_mk k n sub
      have h3 : ∀ l : List Pat, l.length ≤ (l.map sz).sum := fun l => by
        induction l with
        | nil => simp
        | cons x l ih => simp only [List.map_cons, List.sum_cons, List.length_cons]; have := sz_pos x; omega
      have := h3 sub
      omega
    have HSB : Hid (∀ q ∈ sub, sz q ≤ 1048576) := fun q hq => by have := sz_sub (p := .mk k n sub) hq; omega
    unfold pv
    dsimp only [Pat.kind, Pat.num, Pat.sub] at HSZ ⊢
    rw [hpl]
    obtain ⟨s, hs⟩ : ∃ s, w.heap.size = s := ⟨_, rfl⟩
    obtain ⟨l1, hl1⟩ : ∃ l, ln + 1 = l := ⟨_, rfl⟩
    rw [hl1]
    obtain ⟨w0, hw0⟩ : ∃ w0, w.alloc (Obj.cells #[.int .i64 k, .int .i64 n, .slice a pl c] 24) = w0 := ⟨_, rfl⟩
    have hb0 : Below w.heap.size w w0 := by rw [← hw0]; exact (Below.refl _ w).alloc (Nat.le_refl _) _
    have hx0 : w0.heap[s]? = some (Obj.cells #[.int .i64 k, .int .i64 n, .slice a pl c] 24) := by rw [← hw0, ← hs]; exact World.alloc_heap_new w _
    have hs0 : w0.heap.size = s + 1 := by rw [← hw0, ← hs]; simp
    have HB0 : Hid (Below w.heap.size w w0) := hb0
    have HP : Hid (PA w w.heap.size (.mk k n sub) a) := hp
    have hla : ((ln : Int) + 1) = (l1 : Int) := by omega
    obtain ⟨x0, x1, x2⟩ := cell_three hx0
    have HX0 : Hid (w0.heap[s]? = some (Obj.cells #[.int .i64 k, .int .i64 n, .slice a pl c] 24)) := hx0
    clear hp hx hf ih hb0 hx0 hln hF
    obtain ⟨i0, hi, hz0, hz1, hz2⟩ := info_of EB.hi
    by_cases k12 : k = 1 ∨ k = 2
    · go_enter Try.func14, Try.ntmps14
      go_wp2_with (at_make; refine wpList_make_full _ rfl _ _ 36 rfl (s + 1) 4 i0 _ 1 Try.underlying36 hi hz0 hz1 _ _ _ _ l1 rfl rfl rfl rfl (by rw [hz2]; show 1 * l1 ≤ _; omega) (by unfold maxLen; omega) (by omega) ?_)
      intro w1 hrow hgr
      have HG : Hid (Below w0.heap.size w0 w1) := ⟨hgr.os, hgr.tape, hgr.output, hgr.size, fun k hk => hgr.block k hk (fun e => by cases e)⟩
      have HB1 : Hid (Below w.heap.size w w1) := HB0.out.trans (HG.out.mono HB0.out.size)
      rw [eb_rep] at hrow
      have HO1 : Hid (OwnL EB (s + 1) w1 (.slice (some ⟨s + 1, 0, none⟩) l1 l1) (List.replicate l1 false)) := ⟨by rw [List.length_replicate]; exact hrow⟩
      have HX1 : Hid (w1.heap[s]? = some (Obj.cells #[.int .i64 k, .int .i64 n, .slice a pl c] 24)) := (HG.out.block s (by omega)).trans HX0.out
      obtain ⟨y0, y1, y2⟩ := cell_three HX1.out
      clear hrow hgr x0 x1 x2
      try rw [hs0]
      have HKW : Hid (Below (s + 1) w1 w1) := Below.refl _ _
      obtain ⟨cx, hcx⟩ : ∃ cx : Int → Bool, cx = (fun x => (k == 2) || (x == n)) := ⟨_, rfl⟩
      have HLL : Hid (∀ w, Lang (.mk k n sub) w ↔ ∃ x, w = [x] ∧ cx x = true) := fun w => by
        rw [hcx]
        rcases k12 with rfl | rfl
        · rw [lang_num]; simp
        · rw [lang_any]; simp
      have HC : Hid (∀ x, cx x = ((k == 2) || (x == n))) := fun x => by rw [hcx]
      obtain ⟨fE, hfE⟩ : ∃ f, en (Lang (.mk k n sub)) xs F = f := ⟨_, rfl⟩
      have HEN : Hid (∀ i (h : i < xs.length), fE (i + 1) = ((F[i]?).getD false && cx xs[i])) := fun i h => by rw [← hfE]; exact en_one HLL.out xs F h
      have HE0 : Hid (fE 0 = false) := by rw [← hfE]; exact en_zero HLL.out xs F
      have HALL : Hid (upto fE l1 ln = ends (Lang (.mk k n sub)) xs F) := by rw [← hfE, ← hl1]; exact upto_all _ _ _ _ HLN.out
      clear hcx hfE
      rcases k12 with rfl | rfl
      all_goals
        go_wp2_with fail
        clear y0 y1 y2
        go_loopw [42] (fun iv wr => ∃ i : Nat, i ≤ ln ∧ iv = .int .i64 (i : Int) ∧ OwnL EB (s + 1) wr (.slice (some ⟨s + 1, 0, none⟩) l1 l1) (upto fE l1 i) ∧ Below (s + 1) w1 wr) (fun i _ => ln - (intOf i).toNat)
        case atStart => exact ⟨0, Nat.zero_le _, rfl, by rw [upto_zero _ _ HE0.out]; exact HO1.out, Below.refl _ _⟩
        case round =>
          obtain ⟨i, hi', rfl, ho, hbr⟩ := hrel
          have HO : Hid (OwnL EB (s + 1) wr (.slice (some ⟨s + 1, 0, none⟩) l1 l1) (upto fE l1 i)) := ho
          have HBR : Hid (Below (s + 1) w1 wr) := hbr
          obtain ⟨y0, y1, y2⟩ := cell_three ((hbr.block s (by omega)).trans HX1.out)
          clear ho hbr
          by_cases hlt : i < ln
          · have hix : i < xs.length := by rw [HLN.out]; exact hlt
            have hif : i < F.length := by rw [HFL.out]; omega
            have HBW : Hid (Below w.heap.size w wr) := HB1.out.trans (HBR.out.mono (by omega))
            obtain ⟨pb, po, rfl, hpb, c0⟩ := ei_get (HX.out.bel HBW.out) hix
            obtain ⟨fb, fo, rfl, hfb, f0⟩ := eb_get (HFF.out.bel HBW.out) hif
            have HEX := HEN.out i hix
            rw [List.getElem?_eq_getElem hif, Option.getD_some, HC.out] at HEX
            obtain ⟨x, hx⟩ : ∃ x, xs[i] = x := ⟨_, rfl⟩
            obtain ⟨fi, hfi⟩ : ∃ b, F[i] = b := ⟨_, rfl⟩
            rw [hx] at c0 HEX
            rw [hfi] at f0 HEX
            have ii : (i : Int) < ln := by omega
            have i0' : (0 : Int) ≤ i := by omega
            have il : (i : Int) < l1 := by omega
            have il2 : (i : Int) + 1 < l1 := by omega
            have HUS : Hid (∀ b, fE (i + 1) = b → (upto fE l1 i).set (i + 1) b = upto fE l1 (i + 1)) := fun b e => by rw [← e]; exact upto_set _ _ _
            obtain ⟨e1, e2, -, e4, e5⟩ := eb_set HO.out (i := i + 1) (by omega) false
            have HST : Hid (∀ b, fE (i + 1) = b → OwnL EB (s + 1) (wr.setCell ⟨s + 1, i + 1, none⟩ (.bool b)) (.slice (some ⟨s + 1, 0, none⟩) l1 l1) (upto fE l1 (i + 1)) ∧ Below (s + 1) w1 (wr.setCell ⟨s + 1, i + 1, none⟩ (.bool b))) := fun b e => by
              rw [← HUS.out b e]
              exact ⟨(eb_set HO.out (i := i + 1) (by omega) b).2.2.1, HBR.out.setCell (p := ⟨s + 1, i + 1, none⟩) (Nat.le_refl _) _⟩
            have HEX' : Hid _ := HEX
            clear HEX hx hfi
            cases fi
            · go_wp2_with fail
              obtain ⟨g1, g2⟩ := HST.out false (by rw [HEX'.out]; rfl)
              exact ⟨⟨i + 1, by omega, by simp, g1, g2⟩, by simp [intOf]; omega⟩
            · go_wp2_with fail
              first
                | exact ⟨⟨i + 1, by omega, by simp, (HST.out (x == n) (by rw [HEX'.out]; simp)).1, (HST.out (x == n) (by rw [HEX'.out]; simp)).2⟩, by simp [intOf]; omega⟩
                | exact ⟨⟨i + 1, by omega, by simp, (HST.out true (by rw [HEX'.out]; simp)).1, (HST.out true (by rw [HEX'.out]; simp)).2⟩, by simp [intOf]; omega⟩
          · obtain rfl : i = ln := by omega
            have HR : Hid _ := HO.out
            rw [HALL.out] at HR
            have HBW : Hid (Below w.heap.size w wr) := HB1.out.trans (HBR.out.mono (by omega))
            go_wp2_with fail
            go_ret
            exact ⟨_, _, rfl, HR.out.mono (by omega), HBW.out⟩
    · have k1 : ¬ k = 1 := fun e => k12 (.inl e)
      have k2 : ¬ k = 2 := fun e => k12 (.inr e)
      clear k12
      go_enter Try.func14, Try.ntmps14
      go_wp2_with (at_make; refine wpList_make_full _ rfl _ _ 36 rfl (s + 1) 4 i0 _ 1 Try.underlying36 hi hz0 hz1 _ _ _ _ l1 rfl rfl rfl rfl (by rw [hz2]; show 1 * l1 ≤ _; omega) (by unfold maxLen; omega) (by omega) ?_)
      intro w1 hrow hgr
      have HG : Hid (Below w0.heap.size w0 w1) := ⟨hgr.os, hgr.tape, hgr.output, hgr.size, fun k hk => hgr.block k hk (fun e => by cases e)⟩
      have HB1 : Hid (Below w.heap.size w w1) := HB0.out.trans (HG.out.mono HB0.out.size)
      rw [eb_rep] at hrow
      have HO1 : Hid (OwnL EB (s + 1) w1 (.slice (some ⟨s + 1, 0, none⟩) l1 l1) (List.replicate l1 false)) := ⟨by rw [List.length_replicate]; exact hrow⟩
      have HX1 : Hid (w1.heap[s]? = some (Obj.cells #[.int .i64 k, .int .i64 n, .slice a pl c] 24)) := (HG.out.block s (by omega)).trans HX0.out
      obtain ⟨y0, y1, y2⟩ := cell_three HX1.out
      clear hrow hgr x0 x1 x2
      try rw [hs0]
      by_cases k3 : k = 3
      · subst k3
        obtain ⟨cur, q1, q2, q3⟩ := eb_copy HO1.out
        have HQ3 : Hid (∀ (w' : World) (F : List Bool), F.length = l1 → w'.heap[s + 1]? = some (.cells (splice cur 0 (EB.cs F)).toArray 4 (0, 0)) → OwnL EB (s + 1) w' (.slice (some ⟨s + 1, 0, none⟩) l1 l1) F) := q3
        have HFS : Hid (0 < (EB.cs F).length → (some ⟨s + 1, 0, none⟩ : Option Addr) = some ⟨s + 1, 0, none⟩ ∧ ∃ ad, vf = some ad ∧ ∀ j v, (EB.cs F)[j]? = some v → w1.cell? (ad.add j) = some v) := fun _ => by
          refine ⟨rfl, ?_⟩
          have hl := HFF.out.bel HB1.out
          obtain ⟨b, o, e, -⟩ := eb_get hl (i := 0) (by rw [HFL.out]; omega)
          refine ⟨_, e, fun j v hj => ?_⟩
          have hjl : j < F.length := by
            have := (List.getElem?_eq_some_iff.1 hj).1
            rw [cs_len] at this
            have e1 : F.length * EB.k = F.length := by show F.length * 1 = F.length; omega
            omega
          obtain ⟨b', o', e', -, hc⟩ := eb_get hl hjl
          rw [e] at e'
          cases e'
          rw [Addr.add_lit, hc, ← hj]
          have h5 := cs_at EB F j hjl 0 (by decide)
          have e1 : j * EB.k + 0 = j := by show j * 1 + 0 = j; omega
          rw [e1] at h5
          rw [h5]
          rfl
        have hFc : (EB.cs F).length = l1 := by rw [cs_len, HFL.out]; show (ln + 1) * 1 = l1; omega
        clear q3
        go_wp2_with (refine wpList_copy_splice rfl _ _ 36 36 rfl 4 Try.underlying36 (by kernel_rfl) _ _ l1 l1 l1 cf rfl rfl (s + 1) 0 cur 4 q1 (EB.cs F) (by rw [hFc]; exact (Nat.min_self l1).symm) HFS.out (by omega) (cs_one EB F) (s + 1) w1 (Below.refl _ _) (Nat.le_refl _) ?_)
        intro w2 hh2 hbb2
        have HO2 : Hid (OwnL EB (s + 1) w2 (.slice (some ⟨s + 1, 0, none⟩) l1 l1) F) := HQ3.out w2 F (by rw [HFL.out]; exact hl1) hh2.out
        have HB2 : Hid (Below (s + 1) w1 w2) := hbb2
        have HX2 : Hid (w2.heap[s]? = some (Obj.cells #[.int .i64 3, .int .i64 n, .slice a pl c] 24)) := (hbb2.block s (by omega)).trans HX1.out
        obtain ⟨z0, z1, z2⟩ := cell_three HX2.out
        clear hh2 hbb2 y0 y1 y2 q1 HQ3 HFS
        have hp63 : pl ≤ 9223372036854775807 := hpl63
        go_wp2_with fail
        clear z0 z1 z2
        go_loopw [7, 77] (fun ov iv wr => ∃ (i : Nat) (ao : Option Addr) (co : Nat), i ≤ pl ∧ iv = .int .i64 (i : Int) ∧ ov = .slice ao l1 co ∧ OwnL EB (s + 1) wr (.slice ao l1 co) (ends (Lang (.mk 3 n (sub.take i))) xs F) ∧ Below (s + 1) w1 wr) (fun _ i _ => pl - (intOf i).toNat)
        case atStart =>
          refine ⟨0, _, _, Nat.zero_le _, rfl, rfl, ?_, HB2.out⟩
          rw [List.take_zero, ends_congr (lang_nil n), ends_eps xs F (by rw [HFL.out, HLN.out])]
          exact HO2.out
        case round =>
        obtain ⟨i, ao, co, hi', rfl, rfl, ho, hbr⟩ := hrel
        have HO : Hid (OwnL EB (s + 1) wr (.slice ao l1 co) (ends (Lang (.mk 3 n (sub.take i))) xs F)) := ho
        have HBR : Hid (Below (s + 1) w1 wr) := hbr
        have HBW : Hid (Below w.heap.size w wr) := HB1.out.trans (hbr.mono (by omega))
        clear ho hbr
        by_cases hlt : i < pl
        · have hil : i < sub.length := by omega
          obtain ⟨pb, po, a', c', rfl, hpb, c0, c1, c2, hpa⟩ := (HP.out.bel HBW.out).at (i := i) hil
          have HIQ : Hid (Ec sub[i]) := HIH.out sub[i] (HSZ.out _ (List.getElem_mem hil))
          have HD : Hid (sub.take (i + 1) = sub.take i ++ [sub[i]]) := List.take_succ_eq_append_getElem hil
          have HQB : Hid (sz sub[i] ≤ 1048576) := HSB.out _ (List.getElem_mem hil)
          obtain ⟨q, hq⟩ : ∃ q, sub[i] = q := ⟨_, rfl⟩
          have HPA : Hid (PA wr w.heap.size q a') := by rw [← hq]; exact hpa
          rw [hq] at HIQ c0 c1 c2 HD HQB
          obtain ⟨qk, qn, qs⟩ := q
          dsimp only [Pat.kind, Pat.num, Pat.sub] at c0 c1 c2
          obtain ⟨ql, hql⟩ : ∃ l, qs.length = l := ⟨_, rfl⟩
          rw [hql] at c2
          clear hpa hq
          obtain ⟨wA, hwA⟩ : ∃ wA, wr.alloc (Obj.cells #[.int .i64 qk, .int .i64 qn, .slice a' ql c'] 24) = wA := ⟨_, rfl⟩
          have HBA : Hid (Below wr.heap.size wr wA) := by rw [← hwA]; exact (Below.refl _ wr).alloc (Nat.le_refl _) _
          obtain ⟨sA, hsA⟩ : ∃ s, wr.heap.size = s := ⟨_, rfl⟩
          have hxA : wA.heap[sA]? = some (Obj.cells #[.int .i64 qk, .int .i64 qn, .slice a' ql c'] 24) := by rw [← hwA, ← hsA]; exact World.alloc_heap_new wr _
          obtain ⟨z0, z1, z2⟩ := cell_three hxA
          have HBWA : Hid (Below w.heap.size w wA) := HBW.out.trans (HBA.out.mono HBW.out.size)
          have ii : (i : Int) < pl := by omega
          have i0' : (0 : Int) ≤ i := by omega
          have HC := HIQ.out xs ln (ends (Lang (.mk 3 n (sub.take i))) xs F) a' va ao c' ca co wA HLN.out (by rw [ends_len, HLN.out]) hl20 HQB.out ((HPA.out.bel ((HBA.out).mono HBW.out.size)).mono HBWA.out.size) (HX.out.bel HBWA.out) (HO.out.bel HBA.out).lst.1
          rw [ends_cat, ends_congr (fun w => (lang_snoc n (.mk qk qn qs) (sub.take i) w).symm), ← HD.out] at HC
          unfold pv at HC
          dsimp only [Pat.kind, Pat.num, Pat.sub] at HC
          rw [hql, hl1] at HC
          go_wp2_with fail
          refine HC.mono ?_
          rintro e w3 ⟨ao3, co3, rfl, ho3, hb3⟩
          have HO3 : Hid (OwnL EB (s + 1) w3 (.slice ao3 l1 co3) (ends (Lang (.mk 3 n (sub.take (i + 1)))) xs F)) := ho3.mono (by have h1 := HBWA.out.size; have h2 := HBR.out.size; have h3 := HBA.out.size; have h4 := HG.out.size; omega)
          have HB3 : Hid (Below (s + 1) w1 w3) := (HBR.out.trans (HBA.out.mono (by have h2 := HBR.out.size; have h4 := HG.out.size; omega))).trans (hb3.mono (by have h1 := HBWA.out.size; have h2 := HBR.out.size; have h3 := HBA.out.size; have h4 := HG.out.size; omega))
          clear ho3 hb3 HC
          go_wp2_with fail
          exact ⟨⟨i + 1, ao3, co3, by omega, by simp, rfl, HO3.out, HB3.out⟩, by simp [intOf]; omega⟩
        · obtain rfl : i = pl := by omega
          have HR : Hid _ := HO.out
          rw [← hpl, List.take_length] at HR
          go_wp2_with fail
          go_ret
          exact ⟨_, _, rfl, HR.out.mono (by omega), HBW.out⟩
      by_cases k4 : k = 4
      · subst k4
        go_wp2_with fail
        clear y0 y1 y2
        go_loopw [93] (fun iv wr => ∃ (i : Nat), i ≤ pl ∧ iv = .int .i64 (i : Int) ∧ OwnL EB (s + 1) wr (.slice (some ⟨s + 1, 0, none⟩) l1 l1) (ends (fun w => ∃ q ∈ sub.take i, Lang q w) xs F) ∧ Below (s + 1) w1 wr) (fun i _ => pl - (intOf i).toNat)
        case atStart =>
          refine ⟨0, Nat.zero_le _, rfl, ?_, Below.refl _ _⟩
          rw [ends_none (fun w => by simp), HLN.out, hl1]
          exact HO1.out
        case round =>
        obtain ⟨i, hi', rfl, ho, hbr⟩ := hrel
        have HO : Hid (OwnL EB (s + 1) wr (.slice (some ⟨s + 1, 0, none⟩) l1 l1) (ends (fun w => ∃ q ∈ sub.take i, Lang q w) xs F)) := ho
        have HBR : Hid (Below (s + 1) w1 wr) := hbr
        have HBW : Hid (Below w.heap.size w wr) := HB1.out.trans (hbr.mono (by omega))
        have hswr : s + 1 < wr.heap.size := (ho.row.lt (s + 1) rfl).2
        clear ho hbr
        by_cases hlt : i < pl
        · have hil : i < sub.length := by omega
          obtain ⟨pb, po, a', c', rfl, hpb, c0, c1, c2, hpa⟩ := (HP.out.bel HBW.out).at (i := i) hil
          have HIQ : Hid (Ec sub[i]) := HIH.out sub[i] (HSZ.out _ (List.getElem_mem hil))
          have HD : Hid (sub.take (i + 1) = sub.take i ++ [sub[i]]) := List.take_succ_eq_append_getElem hil
          have HQB : Hid (sz sub[i] ≤ 1048576) := HSB.out _ (List.getElem_mem hil)
          obtain ⟨q, hq⟩ : ∃ q, sub[i] = q := ⟨_, rfl⟩
          have HPA : Hid (PA wr w.heap.size q a') := by rw [← hq]; exact hpa
          rw [hq] at HIQ c0 c1 c2 HD HQB
          obtain ⟨qk, qn, qs⟩ := q
          dsimp only [Pat.kind, Pat.num, Pat.sub] at c0 c1 c2
          obtain ⟨ql, hql⟩ : ∃ l, qs.length = l := ⟨_, rfl⟩
          rw [hql] at c2
          clear hpa hq
          obtain ⟨wA, hwA⟩ : ∃ wA, wr.alloc (Obj.cells #[.int .i64 qk, .int .i64 qn, .slice a' ql c'] 24) = wA := ⟨_, rfl⟩
          have HBA : Hid (Below wr.heap.size wr wA) := by rw [← hwA]; exact (Below.refl _ wr).alloc (Nat.le_refl _) _
          obtain ⟨sA, hsA⟩ : ∃ s, wr.heap.size = s := ⟨_, rfl⟩
          have hxA : wA.heap[sA]? = some (Obj.cells #[.int .i64 qk, .int .i64 qn, .slice a' ql c'] 24) := by rw [← hwA, ← hsA]; exact World.alloc_heap_new wr _
          obtain ⟨z0, z1, z2⟩ := cell_three hxA
          have HBWA : Hid (Below w.heap.size w wA) := HBW.out.trans (HBA.out.mono HBW.out.size)
          have ii : (i : Int) < pl := by omega
          have i0' : (0 : Int) ≤ i := by omega
          have HC := HIQ.out xs ln F a' va vf c' ca cf wA HLN.out HFL.out hl20 HQB.out ((HPA.out.bel ((HBA.out).mono HBW.out.size)).mono HBWA.out.size) (HX.out.bel HBWA.out) (HFF.out.bel HBWA.out)
          unfold pv at HC
          dsimp only [Pat.kind, Pat.num, Pat.sub] at HC
          rw [hql, hl1] at HC
          obtain ⟨fO, hfO⟩ : ∃ f, en (fun w => ∃ q ∈ sub.take i, Lang q w) xs F = f := ⟨_, rfl⟩
          obtain ⟨fQ, hfQ⟩ : ∃ f, en (Lang (.mk qk qn qs)) xs F = f := ⟨_, rfl⟩
          have HEO : Hid (ends (fun w => ∃ q ∈ sub.take i, Lang q w) xs F = mixl fO fQ l1 0) := by show _ = _; rw [mix_zero, ← hfO, ← hl1, ← HLN.out]; rfl
          have HEQ : Hid (∀ j, j < l1 → (ends (Lang (.mk qk qn qs)) xs F)[j]? = some (fQ j)) := fun j hj => by rw [← hfQ]; exact ends_get _ _ _ (by rw [HLN.out]; omega)
          have HQL : Hid ((ends (Lang (.mk qk qn qs)) xs F).length = l1) := by show _ = _; rw [ends_len, HLN.out, hl1]
          have HEN : Hid (mixl fO fQ l1 l1 = ends (fun w => ∃ q ∈ sub.take (i + 1), Lang q w) xs F) := by
            have e1 : ∀ w, (∃ q ∈ sub.take (i + 1), Lang q w) ↔ (∃ q ∈ sub.take i, Lang q w) ∨ Lang (.mk qk qn qs) w := fun w => by
              rw [HD.out]
              simp only [List.mem_append, List.mem_singleton]
              constructor
              · rintro ⟨q, h1 | h1, h2⟩
                · exact .inl ⟨q, h1, h2⟩
                · rw [h1] at h2; exact .inr h2
              · rintro (⟨q, h1, h2⟩ | h2)
                · exact ⟨q, .inl h1, h2⟩
                · exact ⟨_, .inr rfl, h2⟩
            show _ = _
            rw [ends_congr e1, mix_all fO fQ (en (fun w => (∃ q ∈ sub.take i, Lang q w) ∨ Lang (.mk qk qn qs) w) xs F) l1 (fun m _ => by rw [en_or, hfO, hfQ]), ← hl1, ← HLN.out]
            rfl
          obtain ⟨EQ, hEQ⟩ : ∃ E, ends (Lang (.mk qk qn qs)) xs F = E := ⟨_, rfl⟩
          rw [hEQ] at HC HEQ HQL
          clear hfO hfQ hEQ
          go_wp2_with fail
          refine HC.mono ?_
          rintro e w3 ⟨ao3, co3, rfl, ho3, hb3⟩
          have hszA : s + 2 ≤ wA.heap.size := by have := HBA.out.size; omega
          have HR3 : Hid (OwnL EB (s + 2) w3 (.slice ao3 l1 co3) EQ) := ho3.mono hszA
          have HO3 : Hid (OwnL EB (s + 1) w3 (.slice (some ⟨s + 1, 0, none⟩) l1 l1) (mixl fO fQ l1 0)) := by rw [← HEO.out]; exact (HO.out.bel HBA.out).bel hb3
          have HB3 : Hid (Below (s + 1) w1 w3) := (HBR.out.trans (HBA.out.mono (by omega))).trans (hb3.mono (by omega))
          clear ho3 hb3 HC
          go_wp2_with fail
          go_loopw [102] (fun jv wr2 => ∃ (j : Nat), j ≤ l1 ∧ jv = .int .i64 (j : Int) ∧ OwnL EB (s + 1) wr2 (.slice (some ⟨s + 1, 0, none⟩) l1 l1) (mixl fO fQ l1 j) ∧ OwnL EB (s + 2) wr2 (.slice ao3 l1 co3) EQ ∧ Below (s + 1) w1 wr2) (fun j _ => l1 - (intOf j).toNat)
          case atStart => exact ⟨0, Nat.zero_le _, rfl, HO3.out, HR3.out, HB3.out⟩
          case round =>
          obtain ⟨j, hj', rfl, ho4, hr4, hb4⟩ := hrel
          have HO4 : Hid (OwnL EB (s + 1) wr (.slice (some ⟨s + 1, 0, none⟩) l1 l1) (mixl fO fQ l1 j)) := ho4
          have HR4 : Hid (OwnL EB (s + 2) wr (.slice ao3 l1 co3) EQ) := hr4
          have HB4 : Hid (Below (s + 1) w1 wr) := hb4
          clear ho4 hr4 hb4
          by_cases hjl : j < l1
          · obtain ⟨rb, ro, rfl, hrb, r0⟩ := eb_get HR4.out.lst.1 (i := j) (by rw [HQL.out]; exact hjl)
            have e9 := HEQ.out j hjl
            rw [List.getElem?_eq_getElem (by rw [HQL.out]; exact hjl)] at e9
            rw [Option.some.inj e9] at r0
            obtain ⟨e1, e2, -, e4, e5⟩ := eb_set HO4.out (i := j) hjl false
            rw [List.getD_eq_getElem?_getD, mix_get fO fQ hjl] at e1
            have e1' : wr.cell? ⟨s + 1, j, none⟩ = some (.bool (fO j)) := by rw [e1]; simp
            have HST : Hid (∀ b, (fO j || fQ j) = b → OwnL EB (s + 1) (wr.setCell ⟨s + 1, j, none⟩ (.bool b)) (.slice (some ⟨s + 1, 0, none⟩) l1 l1) (mixl fO fQ l1 (j + 1)) ∧ OwnL EB (s + 2) (wr.setCell ⟨s + 1, j, none⟩ (.bool b)) (.slice (some ⟨rb, ro, none⟩) l1 co3) EQ ∧ Below (s + 1) w1 (wr.setCell ⟨s + 1, j, none⟩ (.bool b))) := fun b e => by
              rw [← mix_set fO fQ hjl, e]
              exact ⟨(eb_set HO4.out (i := j) hjl b).2.2.1, eb_blk (M := 0) (n := 0) (c := 0) HR4.out (by omega) j _, HB4.out.setCell (p := ⟨s + 1, j, none⟩) (Nat.le_refl _) _⟩
            have jj : (j : Int) < l1 := by omega
            have j0' : (0 : Int) ≤ j := by omega
            obtain ⟨vO, hvO⟩ : ∃ b, fO j = b := ⟨_, rfl⟩
            obtain ⟨vQ, hvQ⟩ : ∃ b, fQ j = b := ⟨_, rfl⟩
            rw [hvO] at e1'
            rw [hvQ] at r0
            have HVV : Hid ((fO j || fQ j) = (vO || vQ)) := by show _ = _; rw [hvO, hvQ]
            clear e1 hvO hvQ e9
            cases vO
            · go_wp2_with fail
              obtain ⟨g1, g2, g3⟩ := HST.out vQ (by rw [HVV.out]; rfl)
              exact ⟨⟨j + 1, by omega, by simp, g1, g2, g3⟩, by simp [intOf]; omega⟩
            · go_wp2_with fail
              obtain ⟨g1, g2, g3⟩ := HST.out true (by rw [HVV.out]; rfl)
              exact ⟨⟨j + 1, by omega, by simp, g1, g2, g3⟩, by simp [intOf]; omega⟩
          · obtain rfl : j = l1 := by omega
            have HN : Hid _ := HO4.out
            rw [HEN.out] at HN
            go_wp2_with fail
            exact ⟨⟨i + 1, by omega, by simp, HN.out, HB4.out⟩, by simp [intOf]; omega⟩
        · obtain rfl : i = pl := by omega
          have HR : Hid _ := HO.out
          rw [← hpl, List.take_length, ends_congr (fun w => (lang_alt n sub w).symm)] at HR
          go_wp2_with fail
          go_ret
          exact ⟨_, _, rfl, HR.out.mono (by omega), HBW.out⟩
      by_cases hone : (k = 5 ∨ k = 6 ∨ k = 7) ∧ pl = 1
      · obtain ⟨k57, rfl⟩ := hone
        obtain ⟨p0, rfl⟩ := List.length_eq_one_iff.1 hpl
        obtain ⟨pb, po, a', c', rfl, hpb, c0, c1, c2, hpa⟩ := (HP.out.bel HB1.out).at (i := 0) (by simp)
        simp only [List.getElem_cons_zero, Nat.zero_mul, Nat.add_zero] at c0 c1 c2 hpa
        have HIQ : Hid (Ec p0) := HIH.out p0 (HSZ.out p0 (by simp))
        have HQB : Hid (sz p0 ≤ 1048576) := HSB.out p0 (by simp)
        have HPA : Hid (PA w w.heap.size p0 a') := by
          obtain ⟨pb2, po2, a2, c2', e, hpb2, d0, d1, d2, hpa2⟩ := HP.out.at (i := 0) (by simp)
          cases e
          simp only [List.getElem_cons_zero, Nat.zero_mul, Nat.add_zero] at d2 hpa2
          have e3 : w1.cell? ⟨pb, po + 2, none⟩ = w.cell? ⟨pb, po + 2, none⟩ := World.cell?_of_block (w := w) (HB1.out.block pb (by omega))
          rw [e3, d2] at c2
          cases c2
          exact hpa2
        obtain ⟨qk, qn, qs⟩ := p0
        dsimp only [Pat.kind, Pat.num, Pat.sub] at c0 c1 c2
        obtain ⟨ql, hql⟩ : ∃ l, qs.length = l := ⟨_, rfl⟩
        rw [hql] at c2
        clear hpa
        by_cases h7 : k = 7
        · subst h7
          have HC := HIQ.out xs ln F a' va vf c' ca cf w1 HLN.out HFL.out hl20 HQB.out ((HPA.out.bel HB1.out).mono HB1.out.size) (HX.out.bel HB1.out) (HFF.out.bel HB1.out)
          unfold pv at HC
          dsimp only [Pat.kind, Pat.num, Pat.sub] at HC
          rw [hql, hl1] at HC
          go_wp2_with fail
          refine HC.mono ?_
          rintro e w3 ⟨ao3, co3, rfl, ho3, hb3⟩
          have hsz1 : s + 1 < w1.heap.size := (HO1.out.row.lt (s + 1) rfl).2
          obtain ⟨EQ, hEQ⟩ : ∃ E, ends (Lang (.mk qk qn qs)) xs F = E := ⟨_, rfl⟩
          obtain ⟨fQ, hfQ⟩ : ∃ f, en (Lang (.mk qk qn qs)) xs F = f := ⟨_, rfl⟩
          have HEQ : Hid (∀ j, j < l1 → EQ[j]? = some (fQ j)) := fun j hj => by rw [← hEQ, ← hfQ]; exact ends_get _ _ _ (by rw [HLN.out]; omega)
          have HQL : Hid (EQ.length = l1) := by show _ = _; rw [← hEQ, ends_len, HLN.out, hl1]
          rw [hEQ] at ho3
          have HR3 : Hid (OwnL EB (s + 2) w3 (.slice ao3 l1 co3) EQ) := ho3.mono (by omega)
          obtain ⟨fF, hfF⟩ : ∃ f : Nat → Bool, f = fun j => F.getD j false := ⟨_, rfl⟩
          have HFG : Hid (∀ j (h : j < F.length), F[j] = fF j) := fun j h => by rw [hfF]; simp [List.getD_eq_getElem?_getD, List.getElem?_eq_getElem h]
          have HALL : Hid (mixl (fun _ => false) (fun j => fQ j || fF j) l1 l1 = ends (Lang (.mk 7 n [.mk qk qn qs])) xs F) := by
            show _ = _
            rw [mix_all (fun _ => false) (fun j => fQ j || fF j) (en (Lang (.mk 7 n [.mk qk qn qs])) xs F) l1 (fun m hm => ?_), ← hl1, ← HLN.out]
            · rfl
            · have e1 : ∀ w, Lang (.mk 7 n [.mk qk qn qs]) w ↔ Lang (.mk qk qn qs) w ∨ w = [] := fun w => by rw [lang_maybe]; exact Or.comm
              have e2 : Lang (.mk 7 n [.mk qk qn qs]) = fun w => Lang (.mk qk qn qs) w ∨ w = [] := funext fun w => propext (e1 w)
              rw [e2, en_or, hfQ]
              have e3 := ends_get (fun w => w = []) xs F (j := m) (by rw [HLN.out]; omega)
              rw [ends_eps xs F (by rw [HFL.out, HLN.out])] at e3
              rw [hfF]
              simp [List.getD_eq_getElem?_getD, e3]
          have HO3 : Hid (OwnL EB (s + 1) w3 (.slice (some ⟨s + 1, 0, none⟩) l1 l1) (mixl (fun _ => false) (fun j => fQ j || fF j) l1 0)) := by
            have e1 : mixl (fun _ => false) (fun j => fQ j || fF j) l1 0 = List.replicate l1 false := by rw [mix_zero]; apply List.ext_getElem (by simp); intro m h1 h2; simp
            show OwnL _ _ _ _ _
            rw [e1]
            exact HO1.out.bel hb3
          have HB3 : Hid (Below (s + 1) w1 w3) := hb3.mono (by omega)
          clear ho3 hb3 HC hEQ hfQ hfF y0 y1 y2 c0 c1 c2
          go_wp2_with fail
          go_loopw [134] (fun jv wr2 => ∃ (j : Nat), j ≤ l1 ∧ jv = .int .i64 (j : Int) ∧ OwnL EB (s + 1) wr2 (.slice (some ⟨s + 1, 0, none⟩) l1 l1) (mixl (fun _ => false) (fun j => fQ j || fF j) l1 j) ∧ OwnL EB (s + 2) wr2 (.slice ao3 l1 co3) EQ ∧ Below (s + 1) w1 wr2) (fun j _ => l1 - (intOf j).toNat)
          case atStart => exact ⟨0, Nat.zero_le _, rfl, HO3.out, HR3.out, HB3.out⟩
          case round =>
          obtain ⟨j, hj', rfl, ho4, hr4, hb4⟩ := hrel
          have HO4 : Hid (OwnL EB (s + 1) wr (.slice (some ⟨s + 1, 0, none⟩) l1 l1) (mixl (fun _ => false) (fun j => fQ j || fF j) l1 j)) := ho4
          have HR4 : Hid (OwnL EB (s + 2) wr (.slice ao3 l1 co3) EQ) := hr4
          have HB4 : Hid (Below (s + 1) w1 wr) := hb4
          have HBW4 : Hid (Below w.heap.size w wr) := HB1.out.trans (hb4.mono (by omega))
          clear ho4 hr4 hb4
          by_cases hjl : j < l1
          · obtain ⟨rb, ro, rfl, hrb, r0⟩ := eb_get HR4.out.lst.1 (i := j) (by rw [HQL.out]; exact hjl)
            have hjF : j < F.length := by rw [HFL.out]; omega
            obtain ⟨fb, fo, rfl, hfb, f0⟩ := eb_get (HFF.out.bel HBW4.out) hjF
            rw [HFG.out j hjF] at f0
            have e9 := HEQ.out j hjl
            rw [List.getElem?_eq_getElem (by rw [HQL.out]; exact hjl)] at e9
            rw [Option.some.inj e9] at r0
            obtain ⟨e1, e2, -, e4, e5⟩ := eb_set HO4.out (i := j) hjl false
            have HST : Hid (∀ b, (fQ j || fF j) = b → OwnL EB (s + 1) (wr.setCell ⟨s + 1, j, none⟩ (.bool b)) (.slice (some ⟨s + 1, 0, none⟩) l1 l1) (mixl (fun _ => false) (fun j => fQ j || fF j) l1 (j + 1)) ∧ OwnL EB (s + 2) (wr.setCell ⟨s + 1, j, none⟩ (.bool b)) (.slice (some ⟨rb, ro, none⟩) l1 co3) EQ ∧ Below (s + 1) w1 (wr.setCell ⟨s + 1, j, none⟩ (.bool b))) := fun b e => by
              have e6 := mix_set (fun _ => false) (fun j => fQ j || fF j) hjl
              simp only [Bool.false_or] at e6
              rw [← e6, e]
              exact ⟨(eb_set HO4.out (i := j) hjl b).2.2.1, eb_blk (M := 0) (n := 0) (c := 0) HR4.out (by omega) j _, HB4.out.setCell (p := ⟨s + 1, j, none⟩) (Nat.le_refl _) _⟩
            have jj : (j : Int) < l1 := by omega
            have j0' : (0 : Int) ≤ j := by omega
            obtain ⟨vO, hvO⟩ : ∃ b, fQ j = b := ⟨_, rfl⟩
            obtain ⟨vQ, hvQ⟩ : ∃ b, fF j = b := ⟨_, rfl⟩
            rw [hvO] at r0
            rw [hvQ] at f0
            have HVV : Hid ((fQ j || fF j) = (vO || vQ)) := by show _ = _; rw [hvO, hvQ]
            clear hvO hvQ e9
            cases vO
            · go_wp2_with fail
              obtain ⟨g1, g2, g3⟩ := HST.out vQ (by rw [HVV.out]; rfl)
              exact ⟨⟨j + 1, by omega, by simp, g1, g2, g3⟩, by simp [intOf]; omega⟩
            · go_wp2_with fail
              obtain ⟨g1, g2, g3⟩ := HST.out true (by rw [HVV.out]; rfl)
              exact ⟨⟨j + 1, by omega, by simp, g1, g2, g3⟩, by simp [intOf]; omega⟩
          · obtain rfl : j = l1 := by omega
            have HN : Hid _ := HO4.out
            rw [HALL.out] at HN
            go_wp2_with fail
            go_ret
            exact ⟨_, _, rfl, HN.out.mono (by omega), HBW4.out⟩
        · have k56 : k = 5 ∨ k = 6 := by omega
          exact absurd ⟨k56, rfl⟩ h56
      · have HNO : Hid (∀ w, ¬ Lang (.mk k n sub) w) := fun w => lang_none (by
          by_cases h1 : 1 ≤ k ∧ k ≤ 7
          · exact .inr ⟨by omega, by omega, fun e => hone ⟨by omega, by omega⟩⟩
          · exact .inl h1) w
        have HR : Hid (OwnL EB (s + 1) w1 (.slice (some ⟨s + 1, 0, none⟩) l1 l1) (ends (Lang (.mk k n sub)) xs F)) := by
          show OwnL _ _ _ _ _
          rw [ends_none HNO.out, HLN.out, hl1]
          exact HO1.out
        by_cases hp1 : pl = 1
        · have k5 : ¬ k = 5 := fun e => hone ⟨.inl e, hp1⟩
          have k6 : ¬ k = 6 := fun e => hone ⟨.inr (.inl e), hp1⟩
          have k7 : ¬ k = 7 := fun e => hone ⟨.inr (.inr e), hp1⟩
          have hp1' : (pl : Int) = 1 := by omega
          have b1 : (k == 1) = false := by simp [k1]
          have b2 : (k == 2) = false := by simp [k2]
          have b3 : (k == 3) = false := by simp [k3]
          have b4 : (k == 4) = false := by simp [k4]
          have b5 : (k == 5) = false := by simp [k5]
          have b6 : (k == 6) = false := by simp [k6]
          have b7 : (k == 7) = false := by simp [k7]
          clear hone hp1
          go_wp2_with fail
          go_ret
          exact ⟨_, _, rfl, HR.out.mono (by omega), by first | exact HB1.out | (rw [← hs]; exact HB1.out)⟩
        · have hp1' : ¬ (pl : Int) = 1 := by omega
          clear hone
          by_cases k5 : k = 5
          · subst k5
            go_wp2_with fail
            go_ret
            exact ⟨_, _, rfl, HR.out.mono (by omega), by first | exact HB1.out | (rw [← hs]; exact HB1.out)⟩
          by_cases k6 : k = 6
          · subst k6
            go_wp2_with fail
            go_ret
            exact ⟨_, _, rfl, HR.out.mono (by omega), by first | exact HB1.out | (rw [← hs]; exact HB1.out)⟩
          by_cases k7 : k = 7
          · subst k7
            go_wp2_with fail
            go_ret
            exact ⟨_, _, rfl, HR.out.mono (by omega), by first | exact HB1.out | (rw [← hs]; exact HB1.out)⟩
          · have b1 : (k == 1) = false := by simp [k1]
            have b2 : (k == 2) = false := by simp [k2]
            have b3 : (k == 3) = false := by simp [k3]
            have b4 : (k == 4) = false := by simp [k4]
            have b5 : (k == 5) = false := by simp [k5]
            have b6 : (k == 6) = false := by simp [k6]
            have b7 : (k == 7) = false := by simp [k7]
            go_wp2_with fail
            go_ret
            exact ⟨_, _, rfl, HR.out.mono (by omega), by first | exact HB1.out | (rw [← hs]; exact HB1.out)⟩
end Go.Proofs.Ytagfdmkgnedlbag.Po
