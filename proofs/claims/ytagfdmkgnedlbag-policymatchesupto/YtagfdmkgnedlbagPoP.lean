/- The document's polEnds of a repetition: what it answers. -/
import Derived.Test.YtagfdmkgnedlbagPoOa
namespace Go.Proofs.Ytagfdmkgnedlbag.Po
open Go.ChangeShapes Go.WideShapes Go.ChangeAt Go.RowKit Go.Joins Go.Proofs.Ytagfdmkgnedlbag.Ge
set_option linter.unusedVariables false

/-- how many of a block's bools are true -/
def tcount (w : World) (g : Nat) : Nat :=
  match w.heap[g]? with
  | some (.cells cs _ _) => cs.toList.countP fun v => match v with | .bool b => b | _ => false
  | _ => 0
theorem ct_cs : ∀ (O : List Bool), ((EB.cs O).countP fun v => match v with | .bool b => b | _ => false) = cnt O
  | [] => rfl
  | b :: O => by
    have ih := ct_cs O
    have e1 : EB.cs (b :: O) = .bool b :: EB.cs O := rfl
    rw [e1, List.countP_cons, ih]
    unfold cnt
    rw [List.count_cons]
    cases b <;> simp
theorem tcount_own {N g n : Nat} {w : World} {O : List Bool} (h : OwnL EB N w (.slice (some ⟨g, 0, none⟩) n n) O) : tcount w g = cnt O := by
  have hl := h.lst.2
  rcases h.row.2 with ⟨h1, h2⟩ | ⟨g', c', cur, h1, h2, h3, h4, h5, h6, h7⟩
  · cases h1
  · cases h1
    have e1 : cur.toList = EB.cs O := by
      rw [← h7, List.take_of_length_le]
      have : cur.size = O.length * EB.k := h6
      simp; omega
    unfold tcount
    rw [h3]
    show List.countP _ cur.toList = cnt O
    rw [e1]
    exact ct_cs O
def bOf : Value → Bool
  | .bool b => b
  | _ => false
/-- how far a round has come -/
structure RI (A : Lg) (xs : List Int) (F R0 O0 : List Bool) (j : Nat) (R O : List Bool) (m : Bool) : Prop where
  rep : Rep A xs F R O
  got : ∀ i : Nat, i < j → (ends A xs R0)[i]? = some true → O[i]? = some true
  same : m = false → R = R0 ∧ O = O0
  less : m = true → cnt O0 < cnt O
theorem RI.skip {A : Lg} {xs : List Int} {F R0 O0 : List Bool} {j : Nat} {R O : List Bool} {m : Bool} (h : RI A xs F R0 O0 j R O m) (hj : (ends A xs R0)[j]? = some true → O[j]? = some true) : RI A xs F R0 O0 (j + 1) R O m :=
  ⟨h.rep, fun i hi he => by
    by_cases e : i = j
    · subst e; exact hj he
    · exact h.got i (by omega) he, h.same, h.less⟩
theorem RI.set {A : Lg} {xs : List Int} {F R0 O0 : List Bool} {j : Nat} {R O : List Bool} {m : Bool} (h : RI A xs F R0 O0 j R O m) (h0 : Rep A xs F R0 O0) (hj : (ends A xs R0)[j]? = some true) (hjl : j < O.length) (ho : O[j] = false) : RI A xs F R0 O0 (j + 1) (R.set j true) (O.set j true) true := by
  have hen := h0.more ((ends_true A xs R0 j).1 hj)
  refine ⟨h.rep.set hen, fun i hi he => ?_, (fun e => by cases e), fun _ => ?_⟩
  · by_cases e : j = i
    · subst e; rw [List.getElem?_set_self hjl]
    · rw [List.getElem?_set_ne e]; exact h.got i (by omega) he
  · rw [cnt_set hjl ho]
    cases m with
    | true => have := h.less rfl; omega
    | false => rw [(h.same rfl).2]; omega
set_option maxRecDepth 100000 in
set_option maxHeartbeats 2000000 in
theorem rep_any (p0 : Pat) (HIQ : Ec p0) (k n : Int) (k56 : k = 5 ∨ k = 6) : Ec (.mk k n [p0]) := by
    have HIQ : Hid (Ec p0) := HIQ
    intro xs ln F a va vf c ca cf w hln hF hl20 hszp hp hx hf
    have HX : Hid (Lst EI w va xs) := hx
    have HFF : Hid (Lst EB w vf F) := hf
    have HLN : Hid (xs.length = ln) := hln
    have HFL : Hid (F.length = ln + 1) := hF
    have HQB : Hid (sz p0 ≤ 1048576) := by
      show _ ≤ _
      have e1 : sz (.mk k n [p0]) = 1 + sz p0 := by rw [sz_mk]; simp
      omega
    unfold pv
    dsimp only [Pat.kind, Pat.num, Pat.sub]
    obtain ⟨pl, hpl⟩ : ∃ l, [p0].length = l := ⟨_, rfl⟩
    obtain rfl : pl = 1 := by rw [← hpl]; rfl
    rw [hpl]
    clear hpl
    obtain ⟨s, hs⟩ : ∃ s, w.heap.size = s := ⟨_, rfl⟩
    obtain ⟨l1, hl1⟩ : ∃ l, ln + 1 = l := ⟨_, rfl⟩
    rw [hl1]
    obtain ⟨w0, hw0⟩ : ∃ w0, w.alloc (Obj.cells #[.int .i64 k, .int .i64 n, .slice a 1 c] 24) = w0 := ⟨_, rfl⟩
    have hb0 : Below w.heap.size w w0 := by rw [← hw0]; exact (Below.refl _ w).alloc (Nat.le_refl _) _
    have hx0 : w0.heap[s]? = some (Obj.cells #[.int .i64 k, .int .i64 n, .slice a 1 c] 24) := by rw [← hw0, ← hs]; exact World.alloc_heap_new w _
    have hs0 : w0.heap.size = s + 1 := by rw [← hw0, ← hs]; simp
    have HB0 : Hid (Below w.heap.size w w0) := hb0
    have HP : Hid (PA w w.heap.size (.mk k n [p0]) a) := hp
    have hla : ((ln : Int) + 1) = (l1 : Int) := by omega
    obtain ⟨x0, x1, x2⟩ := cell_three hx0
    have HX0 : Hid (w0.heap[s]? = some (Obj.cells #[.int .i64 k, .int .i64 n, .slice a 1 c] 24)) := hx0
    clear hp hx hf hb0 hx0 hln hF
    obtain ⟨i0, hi, hz0, hz1, hz2⟩ := info_of EB.hi
    have k1 : ¬ k = 1 := by omega
    have k2 : ¬ k = 2 := by omega
    go_enter Try.func14, Try.ntmps14
    go_wp2_with (at_make; refine wpList_make_full _ rfl _ _ 36 rfl (s + 1) 4 i0 _ 1 Try.underlying36 hi hz0 hz1 _ _ _ _ l1 rfl rfl rfl rfl (by rw [hz2]; show 1 * l1 ≤ _; omega) (by unfold maxLen; omega) (by omega) ?_)
    intro w1 hrow hgr
    have HG : Hid (Below w0.heap.size w0 w1) := ⟨hgr.os, hgr.tape, hgr.output, hgr.size, fun k hk => hgr.block k hk (fun e => by cases e)⟩
    have HB1 : Hid (Below w.heap.size w w1) := HB0.out.trans (HG.out.mono HB0.out.size)
    rw [eb_rep] at hrow
    have HO1 : Hid (OwnL EB (s + 1) w1 (.slice (some ⟨s + 1, 0, none⟩) l1 l1) (List.replicate l1 false)) := ⟨by rw [List.length_replicate]; exact hrow⟩
    have HX1 : Hid (w1.heap[s]? = some (Obj.cells #[.int .i64 k, .int .i64 n, .slice a 1 c] 24)) := (HG.out.block s (by omega)).trans HX0.out
    obtain ⟨y0, y1, y2⟩ := cell_three HX1.out
    clear hrow hgr x0 x1 x2
    try rw [hs0]
    obtain ⟨pb, po, a', c', rfl, hpb, c0, c1, c2, hpa⟩ := (HP.out.bel HB1.out).at (i := 0) (by simp)
    simp only [List.getElem_cons_zero, Nat.zero_mul, Nat.add_zero] at c0 c1 c2 hpa
    have HPA : Hid (PA w w.heap.size p0 a') := by
      obtain ⟨pb2, po2, a2, c2', e, hpb2, d0, d1, d2, hpa2⟩ := HP.out.at (i := 0) (by simp)
      cases e
      simp only [List.getElem_cons_zero, Nat.zero_mul, Nat.add_zero] at d2 hpa2
      have e3 : w1.cell? ⟨pb, po + 2, none⟩ = w.cell? ⟨pb, po + 2, none⟩ := World.cell?_of_block (w := w) (HB1.out.block pb (by omega))
      rw [e3, d2] at c2
      cases c2
      exact hpa2
    obtain ⟨qk, qn, qs⟩ := p0
    dsimp only [Pat.kind, Pat.num, Pat.sub] at c0 c1 c2
    obtain ⟨ql, hql⟩ : ∃ l, qs.length = l := ⟨_, rfl⟩
    rw [hql] at c2
    clear hpa
    have HCE : Hid (∀ W, Below w.heap.size w W → W.cell? ⟨pb, po, none⟩ = some (.int .i64 qk) ∧ W.cell? ⟨pb, po + 1, none⟩ = some (.int .i64 qn) ∧ W.cell? ⟨pb, po + 2, none⟩ = some (.slice a' ql c')) := fun W h => by
      have e1 := h.block pb hpb
      have e2 := HB1.out.block pb hpb
      exact ⟨(World.cell?_of_block (w := w1) (e1.trans e2.symm)).trans c0, (World.cell?_of_block (w := w1) (e1.trans e2.symm)).trans c1, (World.cell?_of_block (w := w1) (e1.trans e2.symm)).trans c2⟩
    have HC0 : Hid (∀ W R vr cr, Below w.heap.size w W → Lst EB W vr R → R.length = ln + 1 → Calls Try.prog 14 #[.agg #[.int .i64 qk, .int .i64 qn, .slice a' ql c'], .slice va ln ca, .slice vr l1 cr] W fun e w' => ∃ ao co, e = .returned (.slice ao l1 co) ∧ OwnL EB W.heap.size w' (.slice ao l1 co) (ends (Lang (.mk qk qn qs)) xs R) ∧ Below W.heap.size W w') := fun W R vr cr h hl hlen => by
      have := HIQ.out xs ln R a' va vr c' ca cr W HLN.out hlen hl20 HQB.out ((HPA.out.bel h).mono h.size) (HX.out.bel h) hl
      unfold pv at this
      dsimp only [Pat.kind, Pat.num, Pat.sub] at this
      rw [hql, hl1] at this
      exact this
    obtain ⟨w2, hw2⟩ : ∃ w2, w1.alloc (Obj.cells #[] 4) = w2 := ⟨_, rfl⟩
    obtain ⟨hO2, hb2⟩ := own_made0 EB hw2
    have hsz1 : s + 1 < w1.heap.size := (HO1.out.row.lt (s + 1) rfl).2
    have HO2 : Hid (OwnL EB (s + 2) w2 (.slice (some ⟨w1.heap.size, 0, none⟩) 0 0) []) := hO2.mono (by omega)
    have HB2 : Hid (Below w1.heap.size w1 w2) := hb2
    have HBW2 : Hid (Below w.heap.size w w2) := HB1.out.trans (hb2.mono HB1.out.size)
    have HFN : Hid (vf = none → l1 = 0 ∧ cf = 0) := fun e => by
      obtain ⟨b, o, e2, -⟩ := eb_get HFF.out (i := 0) (by rw [HFL.out]; omega)
      rw [e] at e2
      cases e2
    have hFl1 : F.length = l1 := by rw [HFL.out]; exact hl1
    have hN2 : s + 2 ≤ w2.heap.size := by have := hb2.size; omega
    clear hO2 hb2
    obtain ⟨sg, hsg⟩ : ∃ g, w1.heap.size = g := ⟨_, rfl⟩
    rcases k56 with rfl | rfl
    all_goals
      go_wp2_with (at_builtin; refine list_appL EB rfl _ _ 36 rfl rfl (s + 2) (.slice (some ⟨sg, 0, none⟩) 0 0) [] F vf l1 cf w2 (by simp; omega) rfl (by rw [← hsg]; exact HO2.out) rfl (HFF.out.bel HBW2.out) HFN.out hFl1 hN2 ?_)
      intro v3 w3 ho3 hg3 hat3
      obtain ⟨vr, cr, rfl, -⟩ := ho3.out.form
      rw [hFl1]
      have HR3 : Hid (OwnL EB (s + 2) w3 (.slice vr l1 cr) F) := by have h := ho3.out; rw [hFl1] at h; exact h
      have HG3 : Hid (Below (s + 2) w1 w3) := by
        have h1 : Below (s + 2) w1 w2 := HB2.out.mono (by omega)
        exact h1.trans ((Below.refl _ w2).grown hg3.out (by omega) (fun g e => by have e2 : some sg = some g := e; have := Option.some.inj e2; omega))
      have HO3 : Hid (OwnL EB (s + 1) w3 (.slice (some ⟨s + 1, 0, none⟩) l1 l1) (List.replicate l1 false)) := HO1.out.blk (fun g e => by
        cases e
        exact HG3.out.block (s + 1) (by omega))
      have HB3 : Hid (Below (s + 1) w1 w3) := HG3.out.mono (by omega)
      obtain ⟨gr, hgr⟩ : ∃ g, vr = some ⟨g, 0, none⟩ := by
        obtain ⟨b, o, e, -⟩ := eb_get HR3.out.lst.1 (i := 0) (by rw [HFL.out]; omega)
        obtain ⟨a2, c2', e2, -, -, hb⟩ := HR3.out.form
        cases e2
        obtain ⟨rfl, -, -⟩ := hb b o e
        exact ⟨b, e⟩
      subst hgr
      have hgr2 : s + 2 ≤ gr := (HR3.out.row.lt gr rfl).1
      have HREP : Hid (Rep (Lang (.mk qk qn qs)) xs F F (List.replicate l1 false)) := by
        have h := Rep.first (Lang (.mk qk qn qs)) xs F (by rw [HFL.out, HLN.out])
        rw [HLN.out, hl1] at h
        exact h
      clear ho3 hg3 hat3 HO2 HB2
      go_wp2_with fail
      clear y0 y1 y2 c0 c1 c2
      go_loopw [20] (fun mv wr => ∃ (m : Bool) (R O : List Bool), mv = .bool m ∧ Rep (Lang (.mk qk qn qs)) xs F R O ∧ OwnL EB (s + 1) wr (.slice (some ⟨s + 1, 0, none⟩) l1 l1) O ∧ OwnL EB (s + 2) wr (.slice (some ⟨gr, 0, none⟩) l1 cr) R ∧ Below (s + 1) w1 wr ∧ (m = false → ∀ j : Nat, En (Lang (.mk qk qn qs)) xs R j → O[j]? = some true)) (fun mv wr => if bOf mv = true then l1 - tcount wr (s + 1) + 1 else 0)
      case atStart => exact ⟨true, F, _, rfl, HREP.out, HO3.out, HR3.out, HB3.out, fun e => by cases e⟩
      case round =>
      obtain ⟨m, R0, O0, rfl, hrep, ho4, hr4, hb4, hcl⟩ := hrel
      have HRP : Hid (Rep (Lang (.mk qk qn qs)) xs F R0 O0) := hrep
      have HO4 : Hid (OwnL EB (s + 1) wr (.slice (some ⟨s + 1, 0, none⟩) l1 l1) O0) := ho4
      have HR4 : Hid (OwnL EB (s + 2) wr (.slice (some ⟨gr, 0, none⟩) l1 cr) R0) := hr4
      have HB4 : Hid (Below (s + 1) w1 wr) := hb4
      have HCL : Hid (m = false → ∀ j : Nat, En (Lang (.mk qk qn qs)) xs R0 j → O0[j]? = some true) := hcl
      have HBW4 : Hid (Below w.heap.size w wr) := HB1.out.trans (hb4.mono (by omega))
      have HTC : Hid (tcount wr (s + 1) = cnt O0) := tcount_own ho4
      have hgl : gr < wr.heap.size := (hr4.row.lt gr rfl).2
      obtain ⟨y0, y1, y2⟩ := cell_three ((hb4.block s (by omega)).trans HX1.out)
      obtain ⟨c0, c1, c2⟩ := HCE.out wr HBW4.out
      clear hrep ho4 hr4 hb4 hcl
      cases m
      · have HDN := HRP.out.done (HCL.out rfl)
        have HDO : Hid (O0 = ends (cat (Lang (.mk qk qn qs)) (Star (Lang (.mk qk qn qs)))) xs F) := HDN.1
        have HDR : Hid (R0 = ends (Star (Lang (.mk qk qn qs))) xs F) := HDN.2 (by rw [HFL.out, HLN.out])
        clear HDN
        go_wp2_with fail
        go_ret
        first
          | exact ⟨_, _, rfl, by rw [ends_congr (lang_star n (.mk qk qn qs)), ← HDR.out]; exact HR4.out.mono (by omega), (by first | exact HBW4.out | (rw [← hs]; exact HBW4.out))⟩
          | exact ⟨_, _, rfl, by rw [ends_congr (lang_plus n (.mk qk qn qs)), ← HDO.out]; exact HO4.out.mono (by omega), (by first | exact HBW4.out | (rw [← hs]; exact HBW4.out))⟩
      · have HRL : Hid (R0.length = ln + 1) := by show _ = _; rw [HRP.out.lr, HLN.out]
        have HC := HC0.out wr R0 (some ⟨gr, 0, none⟩) cr HBW4.out HR4.out.lst.1 HRL.out
        go_wp2_with fail
        refine HC.mono ?_
        rintro e w5 ⟨ao, co, rfl, ho5, hb5⟩
        obtain ⟨M, hM⟩ : ∃ M, wr.heap.size = M := ⟨_, rfl⟩
        rw [hM] at ho5
        have hMs : s + 1 < M := by rw [← hM]; exact (HO4.out.row.lt (s + 1) rfl).2
        have hMg : gr < M := by rw [← hM]; exact hgl
        have HE5 : Hid (OwnL EB M w5 (.slice ao l1 co) (ends (Lang (.mk qk qn qs)) xs R0)) := ho5
        have HO5 : Hid (OwnL EB (s + 1) w5 (.slice (some ⟨s + 1, 0, none⟩) l1 l1) O0) := HO4.out.bel hb5
        have HR5 : Hid (OwnL EB (s + 2) w5 (.slice (some ⟨gr, 0, none⟩) l1 cr) R0) := HR4.out.bel hb5
        have HB5 : Hid (Below (s + 1) w1 w5) := HB4.out.trans (hb5.mono (by omega))
        have HEL : Hid ((ends (Lang (.mk qk qn qs)) xs R0).length = l1) := by show _ = _; rw [ends_len, HLN.out, hl1]
        have HRI : Hid (RI (Lang (.mk qk qn qs)) xs F R0 O0 0 R0 O0 false) := ⟨HRP.out, fun i hi => by omega, fun _ => ⟨rfl, rfl⟩, fun e => by cases e⟩
        clear ho5 hb5 HC c0 c1 c2 y0 y1 y2
        obtain ⟨E, hE⟩ : ∃ E, ends (Lang (.mk qk qn qs)) xs R0 = E := ⟨_, rfl⟩
        have HEE : Hid (ends (Lang (.mk qk qn qs)) xs R0 = E) := hE
        rw [hE] at HE5 HEL
        clear hE
        go_wp2_with fail
        go_loopw [20, 174] (fun mv jv wr2 => ∃ (j : Nat) (m : Bool) (R O : List Bool), j ≤ l1 ∧ jv = .int .i64 (j : Int) ∧ mv = .bool m ∧ RI (Lang (.mk qk qn qs)) xs F R0 O0 j R O m ∧ OwnL EB (s + 1) wr2 (.slice (some ⟨s + 1, 0, none⟩) l1 l1) O ∧ OwnL EB (s + 2) wr2 (.slice (some ⟨gr, 0, none⟩) l1 cr) R ∧ OwnL EB M wr2 (.slice ao l1 co) E ∧ Below (s + 1) w1 wr2) (fun _ j _ => l1 - (intOf j).toNat)
        case atStart => exact ⟨0, false, R0, O0, Nat.zero_le _, rfl, rfl, HRI.out, HO5.out, HR5.out, HE5.out, HB5.out⟩
        case round =>
        obtain ⟨j, m, R, O, hj', rfl, rfl, hri, ho6, hr6, he6, hb6⟩ := hrel
        have HI6 : Hid (RI (Lang (.mk qk qn qs)) xs F R0 O0 j R O m) := hri
        have HO6 : Hid (OwnL EB (s + 1) wr (.slice (some ⟨s + 1, 0, none⟩) l1 l1) O) := ho6
        have HR6 : Hid (OwnL EB (s + 2) wr (.slice (some ⟨gr, 0, none⟩) l1 cr) R) := hr6
        have HE6 : Hid (OwnL EB M wr (.slice ao l1 co) E) := he6
        have HB6 : Hid (Below (s + 1) w1 wr) := hb6
        clear hri ho6 hr6 he6 hb6
        by_cases hjl : j < l1
        · have hjE : j < E.length := by rw [HEL.out]; exact hjl
          have hjO : j < O.length := by rw [HI6.out.rep.lo, HLN.out]; omega
          obtain ⟨eb, eo, rfl, heb, e0⟩ := eb_get HE6.out.lst.1 hjE
          obtain ⟨f1, f2, -, f4, f5⟩ := eb_set HO6.out (i := j) hjl false
          rw [List.getD_eq_getElem?_getD, List.getElem?_eq_getElem hjO, Option.getD_some] at f1
          have HEJ : Hid ((ends (Lang (.mk qk qn qs)) xs R0)[j]? = some E[j]) := by show _ = _; rw [HEE.out]; exact List.getElem?_eq_getElem hjE
          obtain ⟨ve, hve⟩ : ∃ b, E[j] = b := ⟨_, rfl⟩
          obtain ⟨vo, hvo⟩ : ∃ b, O[j] = b := ⟨_, rfl⟩
          rw [hve] at e0 HEJ
          rw [hvo] at f1
          have HVO : Hid (O[j] = vo) := hvo
          have jj : (j : Int) < l1 := by omega
          have j0' : (0 : Int) ≤ j := by omega
          clear hve hvo
          cases ve
          · have HN : Hid (RI (Lang (.mk qk qn qs)) xs F R0 O0 (j + 1) R O m) := HI6.out.skip (fun e => by rw [HEJ.out] at e; cases e)
            go_wp2_with fail
            exact ⟨⟨j + 1, m, R, O, by omega, by simp, rfl, HN.out, HO6.out, HR6.out, HE6.out, HB6.out⟩, by simp [intOf]; omega⟩
          · cases vo
            · have HN : Hid (RI (Lang (.mk qk qn qs)) xs F R0 O0 (j + 1) (R.set j true) (O.set j true) true) := HI6.out.set HRP.out HEJ.out hjO HVO.out
              obtain ⟨w7, hw7⟩ : ∃ w7, wr.setCell ⟨s + 1, j, none⟩ (.bool true) = w7 := ⟨_, rfl⟩
              have HO7 : Hid (OwnL EB (s + 1) w7 (.slice (some ⟨s + 1, 0, none⟩) l1 l1) (O.set j true)) := by rw [← hw7]; exact (eb_set HO6.out (i := j) hjl true).2.2.1
              have HR7 : Hid (OwnL EB (s + 2) w7 (.slice (some ⟨gr, 0, none⟩) l1 cr) R) := by rw [← hw7]; exact eb_blk (M := 0) (n := 0) (c := 0) HR6.out (by omega) j _
              have HE7 : Hid (OwnL EB M w7 (.slice (some ⟨eb, eo, none⟩) l1 co) E) := by rw [← hw7]; exact eb_blk (M := 0) (n := 0) (c := 0) HE6.out (by omega) j _
              have HB7 : Hid (Below (s + 1) w1 w7) := by rw [← hw7]; exact HB6.out.setCell (p := ⟨s + 1, j, none⟩) (Nat.le_refl _) _
              obtain ⟨g1, g2, g3, g4, g5⟩ := eb_set HR7.out (i := j) hjl true
              have HR8 : Hid (OwnL EB (s + 2) (w7.setCell ⟨gr, j, none⟩ (.bool true)) (.slice (some ⟨gr, 0, none⟩) l1 cr) (R.set j true)) := g3
              have HO8 : Hid (OwnL EB (s + 1) (w7.setCell ⟨gr, j, none⟩ (.bool true)) (.slice (some ⟨s + 1, 0, none⟩) l1 l1) (O.set j true)) := HO7.out.blk (fun b e => Below.heap_setCell w7 ⟨gr, j, none⟩ _ b (fun e2 => by have e3 : some (s + 1) = some b := e; have e4 : b = gr := e2; have := Option.some.inj e3; omega))
              have HE8 : Hid (OwnL EB M (w7.setCell ⟨gr, j, none⟩ (.bool true)) (.slice (some ⟨eb, eo, none⟩) l1 co) E) := eb_blk (M := 0) (n := 0) (c := 0) HE7.out (by omega) j _
              have HB8 : Hid (Below (s + 1) w1 (w7.setCell ⟨gr, j, none⟩ (.bool true))) := HB7.out.setCell (p := ⟨gr, j, none⟩) (by show s + 1 ≤ gr; omega) _
              clear g3
              go_wp2_with fail
              exact ⟨⟨j + 1, true, R.set j true, O.set j true, by omega, by simp, rfl, HN.out, HO8.out, HR8.out, HE8.out, HB8.out⟩, by simp [intOf]; omega⟩
            · have HN : Hid (RI (Lang (.mk qk qn qs)) xs F R0 O0 (j + 1) R O m) := HI6.out.skip (fun _ => by rw [List.getElem?_eq_getElem hjO, HVO.out])
              go_wp2_with fail
              exact ⟨⟨j + 1, m, R, O, by omega, by simp, rfl, HN.out, HO6.out, HR6.out, HE6.out, HB6.out⟩, by simp [intOf]; omega⟩
        · obtain rfl : j = l1 := by omega
          have HTN : Hid (tcount wr (s + 1) = cnt O) := tcount_own HO6.out
          have HCN : Hid (m = false → ∀ i : Nat, En (Lang (.mk qk qn qs)) xs R i → O[i]? = some true) := fun e i hi => by
            obtain ⟨e1, e2⟩ := HI6.out.same e
            rw [e1] at hi
            have hil : i < j := by have := hi.1; rw [HLN.out] at this; omega
            exact HI6.out.got i hil ((ends_true _ _ _ _).2 hi)
          have HCL2 : Hid (cnt O ≤ j) := by
            have h1 := cnt_le O
            have h2 := HI6.out.rep.lo
            rw [HLN.out] at h2
            show _ ≤ _
            omega
          have HLS : Hid (m = true → cnt O0 < cnt O) := HI6.out.less
          go_wp2_with fail
          refine ⟨⟨m, R, O, rfl, HI6.out.rep, HO6.out, HR6.out, HB6.out, HCN.out⟩, ?_⟩
          have t1 := HTN.out
          have t2 := HTC.out
          have t3 := HCL2.out
          have t4 := HLS.out
          cases m with
          | false => simp [bOf]
          | true =>
            have t5 := t4 rfl
            simp [bOf, t1, t2]
            omega
end Go.Proofs.Ytagfdmkgnedlbag.Po
