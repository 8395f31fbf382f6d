/- best: how a router is reached at best; same. -/
import Derived.Test.YthhdpfgepjmgkaaDjV
namespace Go.Proofs.Ythhdpfgepjmgkaa.Dj
open Go.ChangeShapes Go.WideShapes Go.ChangeAt Go.RowKit Go.Joins Go.Deep Go.Proofs.Ythhdpfgepjmgkaa.Ge
set_option linter.unusedVariables false
set_option linter.unusedSimpArgs false

/-- what is known stays within bounds -/
def FOk (f : Kw) (U : List Int) : Prop := ∀ n d ls, f n = some (d, ls) → 0 ≤ d ∧ d ≤ far ∧ (∀ x ∈ ls, x ∈ U) ∧ ls.length ≤ 100000000
def Dd (f : Kw) (e : Ed) : Int := (nowP f e.f).1 + e.c
def Sr (f : Kw) (r : Int) (e : Ed) (x : Int) : Prop := if e.f = r then x = e.l else x ∈ (nowP f e.f).2
def Pd (vs : List Ed) (e : Ed) : Prop := 0 < cnt vs (e.t, e.f)
/-- behind so many edges: the least distance, and the links -/
structure Bp (vs : List Ed) (r : Int) (f : Kw) (P : List Ed) (lst : Int) (sx : List Int) : Prop where
  le : lst ≤ far
  ex : lst = far ∨ ∃ e ∈ P, Pd vs e ∧ Dd f e = lst
  mn : ∀ e ∈ P, Pd vs e → lst ≤ Dd f e
  mem : ∀ x, x ∈ sx ↔ ∃ e ∈ P, Pd vs e ∧ Dd f e = lst ∧ Sr f r e x
theorem Bp.nil (vs : List Ed) (r : Int) (f : Kw) : Bp vs r f [] far [] := ⟨Int.le_refl _, .inl rfl, fun e h => absurd h List.not_mem_nil, fun x => ⟨fun h => absurd h List.not_mem_nil, fun ⟨e, h, _⟩ => absurd h List.not_mem_nil⟩⟩
theorem Bp.skip {vs : List Ed} {r : Int} {f : Kw} {P : List Ed} {lst : Int} {sx : List Int} (h : Bp vs r f P lst sx) (e : Ed) (hs : lst < Dd f e ∨ ¬ Pd vs e) : Bp vs r f (P ++ [e]) lst sx := by
  refine ⟨h.le, h.ex.imp id (fun ⟨e', h1, h2⟩ => ⟨e', List.mem_append_left _ h1, h2⟩), fun e' h1 h2 => ?_, fun x => (h.mem x).trans ⟨fun ⟨e', h1, h2⟩ => ⟨e', List.mem_append_left _ h1, h2⟩, fun ⟨e', h1, h2, h3, h4⟩ => ?_⟩⟩
  · rcases List.mem_append.1 h1 with c | c
    · exact h.mn e' c h2
    · rw [List.mem_singleton] at c
      subst c
      rcases hs with c | c
      · omega
      · exact absurd h2 c
  · rcases List.mem_append.1 h1 with c | c
    · exact ⟨e', c, h2, h3, h4⟩
    · rw [List.mem_singleton] at c
      subst c
      rcases hs with c | c
      · omega
      · exact absurd h2 c
theorem Bp.same {vs : List Ed} {r : Int} {f : Kw} {P : List Ed} {lst : Int} {sx sy : List Int} (h : Bp vs r f P lst sx) (e : Ed) (hp : Pd vs e) (hd : Dd f e = lst) (hy : ∀ x, x ∈ sy ↔ x ∈ sx ∨ Sr f r e x) : Bp vs r f (P ++ [e]) lst sy := by
  refine ⟨h.le, h.ex.imp id (fun ⟨e', h1, h2⟩ => ⟨e', List.mem_append_left _ h1, h2⟩), fun e' h1 h2 => ?_, fun x => (hy x).trans ⟨fun c => ?_, fun ⟨e', h1, h2, h3, h4⟩ => ?_⟩⟩
  · rcases List.mem_append.1 h1 with c | c
    · exact h.mn e' c h2
    · rw [List.mem_singleton] at c
      subst c
      omega
  · rcases c with c | c
    · obtain ⟨e', h1, h2⟩ := (h.mem x).1 c
      exact ⟨e', List.mem_append_left _ h1, h2⟩
    · exact ⟨e, List.mem_append_right _ (List.mem_singleton.2 rfl), hp, hd, c⟩
  · rcases List.mem_append.1 h1 with c | c
    · exact .inl ((h.mem x).2 ⟨e', c, h2, h3, h4⟩)
    · rw [List.mem_singleton] at c
      subst c
      exact .inr h4
theorem Bp.less {vs : List Ed} {r : Int} {f : Kw} {P : List Ed} {lst : Int} {sx sy : List Int} (h : Bp vs r f P lst sx) (e : Ed) (hp : Pd vs e) (hd : Dd f e < lst) (hy : ∀ x, x ∈ sy ↔ Sr f r e x) : Bp vs r f (P ++ [e]) (Dd f e) sy := by
  refine ⟨by have := h.le; omega, .inr ⟨e, List.mem_append_right _ (List.mem_singleton.2 rfl), hp, rfl⟩, fun e' h1 h2 => ?_, fun x => (hy x).trans ⟨fun c => ⟨e, List.mem_append_right _ (List.mem_singleton.2 rfl), hp, rfl, c⟩, fun ⟨e', h1, h2, h3, h4⟩ => ?_⟩⟩
  · rcases List.mem_append.1 h1 with c | c
    · have := h.mn e' c h2; omega
    · rw [List.mem_singleton] at c
      subst c
      exact Int.le_refl _
  · rcases List.mem_append.1 h1 with c | c
    · have := h.mn e' c h2; omega
    · rw [List.mem_singleton] at c
      subst c
      exact h4
theorem Bp.best {vs : List Ed} {r : Int} {f : Kw} {v lst : Int} {sx : List Int} (h : Bp vs r f (vs.filter (fun e => decide (e.t = v))) lst sx) (hv : v ≠ r) : Best vs r f v lst (tidyP sx) := by
  have hm : ∀ e, (e ∈ vs.filter (fun e => decide (e.t = v)) ∧ Pd vs e) ↔ (St vs e ∧ e.t = v) := fun e => by
    rw [List.mem_filter]
    exact ⟨fun c => ⟨⟨c.1.1, c.2⟩, of_decide_eq_true c.1.2⟩, fun c => ⟨⟨c.1.1, decide_eq_true c.2⟩, c.1.2⟩⟩
  refine ⟨(tidy_ok sx).1, fun c => absurd c hv, fun _ => h.ex.imp id (fun ⟨e, h1, h2, h3⟩ => ⟨e, ((hm e).1 ⟨h1, h2⟩).1, ((hm e).1 ⟨h1, h2⟩).2, h3⟩), fun _ => ⟨h.le, fun e h1 h2 => h.mn e ((hm e).2 ⟨h1, h2⟩).1 ((hm e).2 ⟨h1, h2⟩).2⟩, fun _ x => ((tidy_ok sx).2 x).trans ((h.mem x).trans ⟨fun ⟨e, h1, h2, h3, h4⟩ => ⟨e, ((hm e).1 ⟨h1, h2⟩).1, ((hm e).1 ⟨h1, h2⟩).2, h3, h4⟩, fun ⟨e, h1, h2, h3, h4⟩ => ⟨e, ((hm e).2 ⟨h1, h2⟩).1, ((hm e).2 ⟨h1, h2⟩).2, h3, h4⟩⟩)⟩
/-- between two edges -/
structure BI (w : World) (sb b4 : Nat) (vs : List Ed) (r : Int) (f : Kw) (U : List Int) (P : List Ed) (lst : Int) (W : World) : Prop where
  bel : Below w.heap.size w W
  x4 : SB RcK b4 (rcL zr) W
  rs : ∃ sv sx, Rs w.heap.size sb sv sx U W ∧ ¬ fpT sb sv b4 ∧ Bp vs r f P lst sx
theorem BI.nx {w : World} {sb b4 : Nat} {vs : List Ed} {r : Int} {f : Kw} {U : List Int} {P : List Ed} {lst : Int} {W W' : World} (h : BI w sb b4 vs r f U P lst W) (hb : Below W.heap.size W W') : BI w sb b4 vs r f U P lst W' := by
  obtain ⟨sv, sx, h1, h2⟩ := h.rs
  exact ⟨h.bel.trans (hb.mono h.bel.size), h.x4.blk (hb.block b4 h.x4.lt), sv, sx, h1.bel hb, h2⟩
def RbPost (w : World) (vs : List Ed) (r : Int) (f : Kw) (v : Int) (U : List Int) (e : Ending) (w' : World) : Prop := ∃ x : Rc, e = .returned (.agg (rcL x).toArray) ∧ x.n = v ∧ Best vs r f v x.d x.ls ∧ RcOk (fun g => w.heap.size ≤ g) w' x ∧ Below w.heap.size w w' ∧ (∀ y ∈ x.ls, y ∈ U) ∧ x.ls.length ≤ U.length
theorem ibuild_run {o : Oper} (x : Operand) (ho : o.op = .buildSlice 30 1 #[(0, x)]) {ρ : Operand → Value} {m : Int} {W : World} (hx : ρ x = .int .i64 m) : (execOp ρ o).run Try.prog W = .ok (.value (.slice (some ⟨W.heap.size, 0, none⟩) 1 1)) (W.alloc (Obj.cells (EI.enc m).toArray 3)) := by
  unfold execOp
  rw [ho]
  simp [go_sem, hx, EI]
theorem list_ibuild {ops : Array Oper} {rest : List Oper} {o : Oper} {ac : Act} {Q : Exit → Act → World → Prop} {W : World} (hgd : o.guard = none) (x : Operand) (ho : o.op = .buildSlice 30 1 #[(0, x)]) {m : Int} (hx : ac.eval x = .int .i64 m)
    (k : ∀ b W', Hid (W.heap.size = b) → Hid (Lst EI W' (some ⟨b, 0, none⟩) [m]) → Hid (Below W.heap.size W W') → wpList Try.prog ops Q rest (ac.put o.dst (.slice (some ⟨b, 0, none⟩) 1 1)) W') : wpList Try.prog ops Q (o :: rest) ac W := by
  refine wpList_plain hgd fun K hK => ?_
  unfold Oper.wp
  rw [ibuild_run x ho hx]
  exact hK _ _ (k _ _ rfl ((own_made EI (W := W) [m] 1 rfl (by decide) rfl).1.lst.1) ((Below.refl _ W).alloc (Nat.le_refl _) _))
def stz : List Value := [.slice none 0 0, .int .i64 0]
set_option maxRecDepth 100000 in
theorem z_st (W : World) : (zeroValue 73).run Try.prog W = .ok (.agg stz.toArray) W := by rfl
theorem Rs.zero {N sb : Nat} {U : List Int} {W : World} (h : SB StK sb stz W) : Rs N sb (.slice none 0 0) [] U W := ⟨⟨0, h, by simp, Nat.zero_le _⟩, OwnL.nil _ _ _, fun g e => (by cases e), fun x hx => absurd hx List.not_mem_nil⟩
set_option maxRecDepth 100000 in
set_option maxHeartbeats 32000000 in
theorem best_any (B : Nat) (b : Nb) (vs : List Ed) (root : Int) (tb kb : Nat) (f : Kw) (k : Nat) (F : Nat → Prop) (U : List Int) (v : Int) (w : World) (hB : B ≤ w.heap.size) (ht : SB TrK tb (trL b root kb) w) (hng : NgB B b vs w) (hk : Kn kb f k F w) (hf : FOk f U) (hU : U.length ≤ 100000000) (hvs : vs.length < 1000000000) (hok : ∀ e ∈ vs, 1 ≤ e.c ∧ e.c ≤ 65535 ∧ e.l ∈ U) (hFl : ∀ g, F g → g < w.heap.size) : Calls Try.prog 39 #[.pointer (some ⟨tb, 0, none⟩), .int .i64 v] w (RbPost w vs root f v U) := by
  have HT : Hid (SB TrK tb (trL b root kb) w) := ht
  have HNG : Hid (NgB B b vs w ∧ B ≤ w.heap.size) := ⟨hng, hB⟩
  have HK : Hid (Kn kb f k F w) := hk
  have HF : Hid (FOk f U ∧ U.length ≤ 100000000) := ⟨hf, hU⟩
  have HOK : Hid (∀ e ∈ vs, 1 ≤ e.c ∧ e.c ≤ 65535 ∧ e.l ∈ U) := hok
  have HVS : Hid (vs.length < 1000000000) := hvs
  have HFS : Hid (∀ g, F g → g < w.heap.size) := hFl
  clear hFl hB ht hng hk hf hU hok hvs
  go_enter Try.func39, Try.ntmps39
  go_wp2_with (refine list_newl RcK _ z_rc rfl rfl ?_)
  intro b4 w1 hb4 hs4 hbl4
  have HB1 : Hid (w.heap.size = b4 ∧ Below w.heap.size w w1) := ⟨hb4.out, hbl4.out⟩
  have HB4L : Hid (w.heap.size ≤ b4) := by rw [hb4.out]; exact Nat.le_refl _
  have HS4 : Hid (SB RcK b4 (rcL zr) w1) := hs4.out
  have c4 : w1.cell? ⟨tb, 4, none⟩ = some (.int .i64 root) := (HT.out.blk (hbl4.out.block tb HT.out.lt)).cell 4
  clear hb4 hs4 hbl4
  by_cases hvr : v = root
  case pos =>
    subst hvr
    go_wp2_with (refine list_sstore RcK rfl _ _ rfl (b := b4) (cs := rcL zr) (cs' := rcL ⟨v, 0, [], none, 0⟩) rfl rfl HS4.out rfl rfl rfl ?_)
    intro w2 hs2 hk2
    have HE : Hid (RbPost w vs v f v U (.returned (.agg (rcL ⟨v, 0, [], none, 0⟩).toArray)) w2) := ⟨⟨v, 0, [], none, 0⟩, rfl, rfl, ⟨List.Pairwise.nil, fun _ => ⟨rfl, rfl⟩, fun c => absurd rfl c, fun c => absurd rfl c, fun c => absurd rfl c⟩, ⟨⟨by simp, fun i hi => absurd hi (by simp)⟩, fun _ => ⟨rfl, rfl⟩, fun g o q e => (by cases e)⟩, HB1.out.2.trans (hk2.out.below (by rw [HB1.out.1]; exact Nat.le_refl _)), fun y hy => absurd hy List.not_mem_nil, Nat.zero_le _⟩
    have HS2 : Hid (SB RcK b4 (rcL ⟨v, 0, [], none, 0⟩) w2) := hs2.out
    clear hs2 hk2 c4 HS4
    go_wp2_with fail
    exact ret_cell RcK rfl rfl HS2.out rfl rfl HE.out
  have HVR : Hid (v ≠ root) := hvr
  have hvb : (v == root) = false := beq_false_of_ne hvr
  clear hvr
  go_wp2_with (refine list_newl StK _ z_st rfl rfl ?_)
  intro sb w2 hb2 hs2 hbl2
  have HB2 : Hid (b4 < sb ∧ w.heap.size ≤ sb ∧ Below w.heap.size w w2) := ⟨by have := hb2.out; have := HS4.out.lt; omega, by have := hb2.out; have := HB1.out.2.size; omega, HB1.out.2.trans (hbl2.out.mono HB1.out.2.size)⟩
  have HS42 : Hid (SB RcK b4 (rcL zr) w2) := HS4.out.blk (hbl2.out.block b4 HS4.out.lt)
  have HS2 : Hid (SB StK sb stz w2) := hs2.out
  clear hb2 hs2 hbl2 c4 HS4
  go_wp2_with (refine list_sstore StK rfl _ _ rfl (b := sb) (cs := stz) (cs' := stz) rfl rfl HS2.out rfl rfl rfl ?_)
  intro w3 hs3 hk3
  have HBW3 : Hid (Below w.heap.size w w3) := HB2.out.2.2.trans (hk3.out.below HB2.out.2.1)
  have HI0 : Hid (BI w sb b4 vs root f U [] far w3) := ⟨HBW3.out, HS42.out.blk (hk3.out.block b4 (by have := HB2.out.1; omega)), .slice none 0 0, [], Rs.zero hs3.out, (fun c => by
    rcases c with c | c
    · have := HB2.out.1; omega
    · cases c), Bp.nil vs root f⟩
  clear hs3 hk3 HS2 HS42
  obtain ⟨N, Fo, Fi, em, cm, eo, co, ei, ci, hnw⟩ := HNG.out.1.rd w (Below.refl _ _)
  have HMI : Hid (MB MIS b.i ei ci w3) := hnw.inn.m.blk (HBW3.out.block b.i hnw.inn.m.lt)
  have hown := hnw.inn.own v
  obtain ⟨L, hL⟩ : ∃ y, vs.filter (fun e => decide (e.t = v)) = y := ⟨_, rfl⟩
  have HLL : Hid (vs.filter (fun e => decide (e.t = v)) = L) := hL
  try dsimp only at hown
  rw [hL] at hown
  obtain ⟨⟨la, ln, lc⟩, hse⟩ : ∃ s : Sl, s0 ei v = s := ⟨_, rfl⟩
  rw [hse] at hown
  have HLS : Hid (Lst EE w la L ∧ L.length = ln ∧ ln < 1000000000 ∧ ∀ e ∈ L, e ∈ vs) := ⟨hown.lst.1, hown.lst.2, (by have h1 : L.length = ln := hown.lst.2; have h2 := List.length_filter_le (fun e => decide (e.t = v)) vs; rw [hL] at h2; have h3 := HVS.out; omega), fun e he => by rw [← hL] at he; exact (List.mem_filter.1 he).1⟩
  have HGI : Hid (MIS.got ei v = .slice la ln lc) := by show _ = _; rw [got_is, hse]; rfl
  have HT3 : Hid (SB TrK tb (trL b root kb) w3) := HT.out.blk (HBW3.out.block tb HT.out.lt)
  have c3 : w3.cell? ⟨tb, 3, none⟩ = some (.map (some b.i)) := HT3.out.cell 3
  clear hnw hown hL hse HB1
  go_wp2_with (refine list_look MIS rfl _ _ rfl (k := v) rfl rfl HMI.out ?_; rw [HGI.out])
  go_loopw [28, 8, 9, 10, 5] (fun iv _ _ _ lv wr => ∃ (i : Nat) (lst : Int), i ≤ ln ∧ iv = .int .i64 (i : Int) ∧ lv = .int .i64 lst ∧ BI w sb b4 vs root f U (L.take i) lst wr) (fun iv _ _ _ _ _ => ln - (intOf iv).toNat)
  case atStart => exact ⟨0, far, Nat.zero_le _, rfl, rfl, by rw [List.take_zero]; exact HI0.out⟩
  case round =>
    obtain ⟨i, lst, hi, rfl, rfl, hbi⟩ := hrel
    obtain ⟨wz, hwz⟩ : ∃ y, wr = y := ⟨_, rfl⟩
    rw [hwz] at hbi ⊢
    have HBI : Hid (BI w sb b4 vs root f U (L.take i) lst wz) := hbi
    have HSB : Hid (w.heap.size ≤ sb ∧ b4 < sb) := ⟨HB2.out.2.1, HB2.out.1⟩
    clear hbi hwz HI0 c3 HMI HGI
    have hilb : (i : Int) < 1000000000 := by have := HLS.out.2.2.1; omega
    by_cases hlt : i < ln
    case neg =>
      have hii : ¬ (i : Int) < (ln : Int) := by omega
      obtain ⟨sv, sx, hrs, hb4s, hbp⟩ := HBI.out.rs
      have HRS : Hid (Rs w.heap.size sb sv sx U wz ∧ ¬ fpT sb sv b4) := ⟨hrs, hb4s⟩
      have HBE : Hid (Best vs root f v lst (tidyP sx)) := by
        rw [List.take_of_length_le (by rw [HLS.out.2.1]; omega), ← HLL.out] at hbp
        exact hbp.best HVR.out
      have HX4 : Hid (SB RcK b4 (rcL zr) wz) := HBI.out.x4
      have HTL : Hid ((tidyP sx).length ≤ U.length ∧ ∀ x ∈ tidyP sx, x ∈ U) := ⟨tidy_len hrs.inU, fun x hx => hrs.inU x (((tidy_ok sx).2 x).1 hx)⟩
      clear hrs hb4s hbp
      go_wp2_with fail
      refine (slist_any w.heap.size sb sv sx U wz HF.out.2 HRS.out.1).mono ?_
      rintro e w5 ⟨v5, v6, rfl, ho5, -, hk5, -, -⟩
      obtain ⟨a5, c5, rfl, -, hz5, hb5⟩ := ho5.form
      have HX45 : Hid (SB RcK b4 (rcL zr) w5) := HX4.out.blk (hk5.blk b4 HX4.out.lt HRS.out.2)
      have HB5 : Hid (Below w.heap.size w w5) := HBI.out.bel.trans (hk5.below HBI.out.bel.size (fun g hg => by
        rcases hg with c | c
        · have := HSB.out; omega
        · exact (HRS.out.1.own.row.lt g c).1))
      obtain ⟨T, hT⟩ : ∃ y, tidyP sx = y := ⟨_, rfl⟩
      rw [hT] at ho5 hz5 HBE HTL
      have HO5 : Hid (OwnL EI wz.heap.size w5 (.slice a5 T.length c5) T) := ho5
      have HZ5 : Hid ((a5 = none → T.length = 0 ∧ c5 = 0)) := hz5
      rw [hT]
      clear ho5 hz5 hb5 hk5 hT HX4
      go_wp2_with (refine list_sstore RcK rfl _ _ rfl (b := b4) (cs := rcL zr) (cs' := rcL ⟨v, lst, T, a5, c5⟩) rfl rfl HX45.out rfl rfl rfl ?_)
      intro w6 hs6 hk6
      have HE : Hid (RbPost w vs root f v U (.returned (.agg (rcL ⟨v, lst, T, a5, c5⟩).toArray)) w6) := by
        have hbw6 : Below w.heap.size w w6 := HB5.out.trans (hk6.out.below (by have := HB4L.out; omega))
        have ho6 : OwnL EI wz.heap.size w6 (.slice a5 T.length c5) T := HO5.out.blk (fun g e => hk6.out.block g (fun c => by
          have h1 := (HO5.out.row.lt g e).1
          have h2 := HBI.out.x4.lt
          omega))
        exact ⟨⟨v, lst, T, a5, c5⟩, rfl, rfl, HBE.out, ⟨ho6.lst.1, HZ5.out, fun g o q e => by
          have e2 : a5 = some ⟨g, o, q⟩ := e
          have h3 : (Value.slice a5 T.length c5).ownBlock = some g := by
            rcases ho6.row.2 with ⟨h1, -⟩ | ⟨g', c', cur, h1, -⟩
            · rw [e2] at h1; cases h1
            · rw [e2] at h1; cases h1; rw [e2]; rfl
          have h4 := ho6.row.lt g h3
          exact ⟨Nat.le_trans HBI.out.bel.size h4.1, h4.2⟩⟩, hbw6, HTL.out.2, HTL.out.1⟩
      have HS6 : Hid (SB RcK b4 (rcL ⟨v, lst, T, a5, c5⟩) w6) := hs6.out
      clear hs6 hk6 HX45 HO5
      go_wp2_with fail
      exact ret_cell RcK rfl rfl HS6.out rfl rfl HE.out
    have hii : (i : Int) < (ln : Int) := by omega
    have ii0 : (0 : Int) ≤ (i : Int) := by omega
    obtain ⟨lb, lo, rfl, -, hce⟩ := (HLS.out.1.bel HBI.out.bel).cells i (by rw [HLS.out.2.1]; exact hlt)
    obtain ⟨x, hx⟩ : ∃ y, L[i]'(by rw [HLS.out.2.1]; exact hlt) = y := ⟨_, rfl⟩
    rw [hx] at hce
    have HCE : Hid (∀ j, j < EdK.k → wz.cell? ⟨lb, lo + i * 4 + j, none⟩ = (edL x)[j]?) := hce
    have HTK : Hid (L.take (i + 1) = L.take i ++ [x]) := by rw [← hx]; exact (List.take_append_getElem _).symm
    have HXV : Hid (x ∈ vs) := by rw [← hx]; exact HLS.out.2.2.2 _ (List.getElem_mem _)
    clear hce hx
    go_wp2_with (first | (refine list_sat EdK rfl _ rfl (b := lb) (k := lo + i * 4) (cs := edL x) rfl HCE.out rfl ?_) | (refine list_newl EdK _ z_ed rfl rfl ?_))
    intro b8 w8 hb8 hs8 hbl8
    have HB8 : Hid (wz.heap.size ≤ b8 ∧ Below wz.heap.size wz w8) := ⟨by rw [hb8.out]; exact Nat.le_refl _, hbl8.out⟩
    have HSBL : Hid (sb < wz.heap.size) := by
      obtain ⟨sv, sx, h1, -⟩ := HBI.out.rs
      exact h1.lt sb (.inl rfl)
    have NB8 : Hid (wz.heap.size ≤ b8) := HB8.out.1
    have HS8 : Hid (SB EdK b8 (edL ⟨0, 0, 0, 0⟩) w8) := hs8.out
    clear hb8 hs8 hbl8 HCE
    go_wp2_with (refine list_sstore EdK rfl _ _ rfl (b := b8) (cs := edL ⟨0, 0, 0, 0⟩) (cs' := edL x) rfl rfl HS8.out rfl rfl rfl ?_)
    intro w9 hs9 hk9
    have HS9 : Hid (SB EdK b8 (edL x) w9) := hs9.out
    have HB9 : Hid (Below wz.heap.size wz w9) := HB8.out.2.trans (hk9.out.below HB8.out.1)
    have c80 : w9.cell? ⟨b8, 0, none⟩ = some (.int .i64 x.f) := HS9.out.cell 0
    have HT9 : Hid (SB TrK tb (trL b root kb) w9) := (HT.out.blk (HBI.out.bel.block tb HT.out.lt)).blk (HB9.out.block tb (Nat.lt_of_lt_of_le HT.out.lt HBI.out.bel.size))
    have HK9 : Hid (Kn kb f k F w9) := HK.out.bel (HBI.out.bel.trans (HB9.out.mono HBI.out.bel.size))
    clear hs9 hk9 HS8 HB8
    go_wp2_with fail
    refine (now_any b root tb kb f k F x.f w9 HT9.out HK9.out).mono ?_
    rintro e w10 ⟨q, rfl, hqn, hq, hqo, hb10⟩
    have HQ : Hid (q.n = x.f ∧ nowP f x.f = (q.d, q.ls)) := ⟨hqn, hq⟩
    have HQO : Hid (RcOk F w10 q) := hqo
    have HB10 : Hid (Below w9.heap.size w9 w10) := hb10
    have HS10 : Hid (SB EdK b8 (edL x) w10) := HS9.out.blk (hb10.block b8 HS9.out.lt)
    clear hqn hq hqo hb10 c80 HS9
    go_wp2_with (refine list_newl RcK _ z_rc rfl rfl ?_)
    intro b9 w11 hb11 hs11 hbl11
    have HB11 : Hid (w10.heap.size ≤ b9 ∧ Below w10.heap.size w10 w11) := ⟨by rw [hb11.out]; exact Nat.le_refl _, hbl11.out⟩
    have HNE8 : Hid (b8 ≠ sb ∧ b9 ≠ sb ∧ tb ≠ sb) := by
      have h1 := HSBL.out
      have h2 := NB8.out
      have h3 := HB11.out.1
      have h4 := HB10.out.size
      have h5 := HB9.out.size
      have h6 := HT.out.lt
      have h7 := HSB.out
      show _ ∧ _
      omega
    have HS11 : Hid (SB RcK b9 (rcL zr) w11) := hs11.out
    clear hb11 hs11 hbl11
    go_wp2_with (refine list_sstore RcK rfl _ _ rfl (b := b9) (cs := rcL zr) (cs' := rcL q) rfl rfl HS11.out rfl rfl rfl ?_)
    intro w12 hs12 hk12
    have HS12 : Hid (SB RcK b9 (rcL q) w12) := hs12.out
    have HB12 : Hid (Below w10.heap.size w10 w12) := HB11.out.2.trans (hk12.out.below HB11.out.1)
    have HS812 : Hid (SB EdK b8 (edL x) w12) := HS10.out.blk (HB12.out.block b8 HS10.out.lt)
    have HBZ : Hid (Below wz.heap.size wz w12) := (HB9.out.trans (HB10.out.mono HB9.out.size)).trans (HB12.out.mono (by have := HB9.out.size; have := HB10.out.size; omega))
    have HQO12 : Hid (RcOk F w12 q) := HQO.out.bel HB12.out
    have HBI12 : Hid (BI w sb b4 vs root f U (L.take i) lst w12) := HBI.out.nx HBZ.out
    have HT12 : Hid (SB TrK tb (trL b root kb) w12) := (HT.out.blk (HBI.out.bel.block tb HT.out.lt)).blk (HBZ.out.block tb (Nat.lt_of_lt_of_le HT.out.lt HBI.out.bel.size))
    clear hs12 hk12 HS11 HB11 HB12 HS10 HQO HB10 HB9 HT9 HK9 HBI HBZ
    have c91 : w12.cell? ⟨b9, 1, none⟩ = some (.int .i64 q.d) := HS12.out.cell 1
    have c82 : w12.cell? ⟨b8, 2, none⟩ = some (.int .i64 x.c) := HS812.out.cell 2
    have HQB : Hid (0 ≤ q.d ∧ q.d ≤ far ∧ (∀ y ∈ q.ls, y ∈ U) ∧ q.ls.length ≤ 100000000) := by
      cases hfx : f x.f with
      | none =>
        have h1 := HQ.out.2
        rw [now_none hfx] at h1
        obtain ⟨e1, e2⟩ := Prod.mk.inj h1
        rw [← e1, ← e2]
        exact ⟨by unfold far; omega, Int.le_refl _, fun y hy => absurd hy List.not_mem_nil, Nat.zero_le _⟩
      | some p =>
        obtain ⟨pd, pl⟩ := p
        have h1 := HQ.out.2
        rw [now_some hfx] at h1
        obtain ⟨e1, e2⟩ := Prod.mk.inj h1
        rw [← e1, ← e2]
        exact HF.out.1 _ _ _ hfx
    have HXC : Hid (1 ≤ x.c ∧ x.c ≤ 65535 ∧ x.l ∈ U) := HOK.out x HXV.out
    have hq0 : 0 ≤ q.d := HQB.out.1
    have hq1 : q.d ≤ 4611686018427387903 := HQB.out.2.1
    have hx0 : 1 ≤ x.c := HXC.out.1
    have hx1 : x.c ≤ 65535 := HXC.out.2.1
    obtain ⟨dx, hdx⟩ : ∃ y, q.d + x.c = y := ⟨_, rfl⟩
    have HDX : Hid (Dd f x = dx) := by show _ = _; unfold Dd; rw [HQ.out.2]; exact hdx
    have hdw : wrap64 (q.d + x.c) = dx := by rw [← hdx]; unfold wrap64; omega
    have HDB : Hid (0 ≤ dx ∧ dx ≤ 4611686018427453438) := ⟨by omega, by omega⟩
    have hdx0 : 0 ≤ dx := HDB.out.1
    have hdx1 : dx ≤ 4611686018427453438 := HDB.out.2
    clear hq0 hq1 hx0 hx1 hdx
    go_upto_region 9 with fail
    clear c91 c82
    obtain ⟨wd, hwd⟩ : ∃ y, w12.drew = y := ⟨_, rfl⟩
    have HWD : Hid (w12.drew = wd) := hwd
    have HBD : Hid (Below w12.heap.size w12 wd) := by rw [← hwd]; exact drew_bel w12
    have HS9D : Hid (SB RcK b9 (rcL q) wd) := HS12.out.blk (HBD.out.block b9 HS12.out.lt)
    have HS8D : Hid (SB EdK b8 (edL x) wd) := HS812.out.blk (HBD.out.block b8 HS812.out.lt)
    have HTD : Hid (SB TrK tb (trL b root kb) wd) := HT12.out.blk (HBD.out.block tb HT12.out.lt)
    have HQOD : Hid (RcOk F wd q) := HQO12.out.bel HBD.out
    have HBID : Hid (BI w sb b4 vs root f U (L.take i) lst wd) := HBI12.out.nx HBD.out
    clear hwd HBD HS12 HS812 HT12 HQO12 HBI12
    refine wp_region_held_drew (S := fun W => SB EdK b8 (edL x) W ∧ SB TrK tb (trL b root kb) W) (by kernel_rfl) (by rw [HWD.out]; exact ⟨HS8D.out, HTD.out⟩) (fun hHeld => ?_)
    rw [HWD.out] at hHeld ⊢
    by_cases hgt : lst < dx
    case pos =>
      have hgt2 : decide (lst < dx) = true := decide_eq_true hgt
      have HSK : Hid (BI w sb b4 vs root f U (L.take (i + 1)) lst wd) := by
        obtain ⟨sv, sx, h1, h2, h3⟩ := HBID.out.rs
        rw [HTK.out]
        exact ⟨HBID.out.bel, HBID.out.x4, sv, sx, h1, h2, h3.skip x (.inl (by rw [HDX.out]; exact hgt))⟩
      refine wpAnyH_take (i := 0) (v := .int .i64 dx) rfl (by kernel_rfl) (by kernel_rfl) (by kernel_rfl) (fun _ _ _ h => h) (Or.inl ⟨by rfl, ?_⟩) (by assumption) ?_
      case refine_1 => intro W hSw; go_simp; try rfl
      try simp only [Act.put, List.getElem_toArray, List.getElem_cons_zero, List.getElem_cons_succ, List.setIfInBounds_toArray, List.set_cons_zero, List.set_cons_succ]
      refine wpAnyH_take (i := 1) (v := .int .i64 lst) rfl (by kernel_rfl) (by kernel_rfl) (by kernel_rfl) (fun _ _ _ h => h) (Or.inl ⟨by rfl, ?_⟩) (by assumption) ?_
      case refine_1 => intro W hSw; go_simp; try rfl
      try simp only [Act.put, List.getElem_toArray, List.getElem_cons_zero, List.getElem_cons_succ, List.setIfInBounds_toArray, List.set_cons_zero, List.set_cons_succ]
      refine wpAnyH_take (i := 2) (v := .bool true) rfl (by kernel_rfl) (by kernel_rfl) (by kernel_rfl) (fun _ _ _ h => h) (Or.inl ⟨by rfl, ?_⟩) (by assumption) ?_
      case refine_1 => intro W hSw; go_simp; all_goals first | exact hgt2 | (simp [hgt]) | rfl
      try simp only [Act.put, List.getElem_toArray, List.getElem_cons_zero, List.getElem_cons_succ, List.setIfInBounds_toArray, List.set_cons_zero, List.set_cons_succ]
      refine wpAnyH_take (i := 3) (v := .bool true) rfl (by kernel_rfl) (by kernel_rfl) (by kernel_rfl) (fun _ _ _ h => h) (Or.inl ⟨by rfl, ?_⟩) (by assumption) ?_
      case refine_1 => intro W hSw; go_simp; try rfl
      try simp only [Act.put, List.getElem_toArray, List.getElem_cons_zero, List.getElem_cons_succ, List.setIfInBounds_toArray, List.set_cons_zero, List.set_cons_succ]
      refine wpAnyH_take (i := 4) (v := undef) rfl (by kernel_rfl) (by kernel_rfl) (by kernel_rfl) (fun _ _ _ h => h) (Or.inr ⟨by rfl, rfl⟩) (by assumption) ?_
      try simp only [Act.put, List.getElem_toArray, List.getElem_cons_zero, List.getElem_cons_succ, List.setIfInBounds_toArray, List.set_cons_zero, List.set_cons_succ]
      refine wpAnyH_take (i := 5) (v := undef) rfl (by kernel_rfl) (by kernel_rfl) (by kernel_rfl) (fun _ _ _ h => h) (Or.inr ⟨by rfl, rfl⟩) (by assumption) ?_
      try simp only [Act.put, List.getElem_toArray, List.getElem_cons_zero, List.getElem_cons_succ, List.setIfInBounds_toArray, List.set_cons_zero, List.set_cons_succ]
      refine wpAnyH_take (i := 6) (v := undef) rfl (by kernel_rfl) (by kernel_rfl) (by kernel_rfl) (fun _ _ _ h => h) (Or.inr ⟨by rfl, rfl⟩) (by assumption) ?_
      try simp only [Act.put, List.getElem_toArray, List.getElem_cons_zero, List.getElem_cons_succ, List.setIfInBounds_toArray, List.set_cons_zero, List.set_cons_succ]
      refine wpAnyH_take (i := 7) (v := undef) rfl (by kernel_rfl) (by kernel_rfl) (by kernel_rfl) (fun _ _ _ h => h) (Or.inr ⟨by rfl, rfl⟩) (by assumption) ?_
      try simp only [Act.put, List.getElem_toArray, List.getElem_cons_zero, List.getElem_cons_succ, List.setIfInBounds_toArray, List.set_cons_zero, List.set_cons_succ]
      refine wpAnyH_take (i := 8) (v := undef) rfl (by kernel_rfl) (by kernel_rfl) (by kernel_rfl) (fun _ _ _ h => h) (Or.inr ⟨by rfl, rfl⟩) (by assumption) ?_
      try simp only [Act.put, List.getElem_toArray, List.getElem_cons_zero, List.getElem_cons_succ, List.setIfInBounds_toArray, List.set_cons_zero, List.set_cons_succ]
      refine wpAnyH_take (i := 9) (v := undef) rfl (by kernel_rfl) (by kernel_rfl) (by kernel_rfl) (fun _ _ _ h => h) (Or.inr ⟨by rfl, rfl⟩) (by assumption) ?_
      try simp only [Act.put, List.getElem_toArray, List.getElem_cons_zero, List.getElem_cons_succ, List.setIfInBounds_toArray, List.set_cons_zero, List.set_cons_succ]
      refine wpAnyH_take (i := 10) (v := undef) rfl (by kernel_rfl) (by kernel_rfl) (by kernel_rfl) (fun _ _ _ h => h) (Or.inr ⟨by rfl, rfl⟩) (by assumption) ?_
      try simp only [Act.put, List.getElem_toArray, List.getElem_cons_zero, List.getElem_cons_succ, List.setIfInBounds_toArray, List.set_cons_zero, List.set_cons_succ]
      refine wpAnyH_take (i := 11) (v := .bool true) rfl (by kernel_rfl) (by kernel_rfl) (by kernel_rfl) (fun _ _ _ h => h) (Or.inl ⟨by rfl, ?_⟩) (by assumption) ?_
      case refine_1 => intro W hSw; go_simp; try rfl
      try simp only [Act.put, List.getElem_toArray, List.getElem_cons_zero, List.getElem_cons_succ, List.setIfInBounds_toArray, List.set_cons_zero, List.set_cons_succ]
      refine wpAnyH_done (by kernel_rfl) ?_ _
      clear hHeld hgt hgt2 hdw
      go_wp2_with fail
      refine ⟨⟨i + 1, lst, by omega, by simp, rfl, HSK.out⟩, ?_⟩
      simp [intOf]
      omega
    have hgt2 : decide (lst < dx) = false := decide_eq_false hgt
    have HGT : Hid (dx ≤ lst) := by show _ ≤ _; omega
    clear hgt
    refine wpAnyH_take (i := 0) (v := .int .i64 dx) rfl (by kernel_rfl) (by kernel_rfl) (by kernel_rfl) (fun _ _ _ h => h) (Or.inl ⟨by rfl, ?_⟩) (by assumption) ?_
    case refine_1 => intro W hSw; go_simp; try rfl
    try simp only [Act.put, List.getElem_toArray, List.getElem_cons_zero, List.getElem_cons_succ, List.setIfInBounds_toArray, List.set_cons_zero, List.set_cons_succ]
    refine wpAnyH_take (i := 1) (v := .int .i64 lst) rfl (by kernel_rfl) (by kernel_rfl) (by kernel_rfl) (fun _ _ _ h => h) (Or.inl ⟨by rfl, ?_⟩) (by assumption) ?_
    case refine_1 => intro W hSw; go_simp; try rfl
    try simp only [Act.put, List.getElem_toArray, List.getElem_cons_zero, List.getElem_cons_succ, List.setIfInBounds_toArray, List.set_cons_zero, List.set_cons_succ]
    refine wpAnyH_take (i := 2) (v := .bool false) rfl (by kernel_rfl) (by kernel_rfl) (by kernel_rfl) (fun _ _ _ h => h) (Or.inl ⟨by rfl, ?_⟩) (by assumption) ?_
    case refine_1 => intro W hSw; go_simp; all_goals first | exact hgt2 | (simp; exact HGT.out) | rfl
    try simp only [Act.put, List.getElem_toArray, List.getElem_cons_zero, List.getElem_cons_succ, List.setIfInBounds_toArray, List.set_cons_zero, List.set_cons_succ]
    refine wpAnyH_take (i := 3) (v := .bool false) rfl (by kernel_rfl) (by kernel_rfl) (by kernel_rfl) (fun _ _ _ h => h) (Or.inl ⟨by rfl, ?_⟩) (by assumption) ?_
    case refine_1 => intro W hSw; go_simp; try rfl
    try simp only [Act.put, List.getElem_toArray, List.getElem_cons_zero, List.getElem_cons_succ, List.setIfInBounds_toArray, List.set_cons_zero, List.set_cons_succ]
    refine wpAnyH_take (i := 4) (v := .pointer (some ⟨tb, 0, none⟩)) rfl (by kernel_rfl) (by kernel_rfl) (by kernel_rfl) (fun _ _ _ h => h) (Or.inl ⟨by rfl, ?_⟩) (by assumption) ?_
    case refine_1 => intro W hSw; go_simp; try rfl
    try simp only [Act.put, List.getElem_toArray, List.getElem_cons_zero, List.getElem_cons_succ, List.setIfInBounds_toArray, List.set_cons_zero, List.set_cons_succ]
    refine wpAnyH_take (i := 5) (v := .pointer (some ⟨tb, 0, none⟩)) rfl (by kernel_rfl) (by kernel_rfl) (by kernel_rfl) (fun _ _ _ h => h) (Or.inl ⟨by rfl, ?_⟩) (by assumption) ?_
    case refine_1 => intro W hSw; go_simp; try rfl
    try simp only [Act.put, List.getElem_toArray, List.getElem_cons_zero, List.getElem_cons_succ, List.setIfInBounds_toArray, List.set_cons_zero, List.set_cons_succ]
    refine wpAnyH_take (i := 6) (v := .pointer (some ⟨tb, 0, none⟩)) rfl (by kernel_rfl) (by kernel_rfl) (by kernel_rfl) (fun _ _ _ h => h) (Or.inl ⟨by rfl, ?_⟩) (by assumption) ?_
    case refine_1 => intro W hSw; go_simp; try rfl
    try simp only [Act.put, List.getElem_toArray, List.getElem_cons_zero, List.getElem_cons_succ, List.setIfInBounds_toArray, List.set_cons_zero, List.set_cons_succ]
    refine wpAnyH_take (i := 7) (v := .agg (nwL b).toArray) rfl (by kernel_rfl) (by kernel_rfl) (by kernel_rfl) (fun _ _ _ h => h) (Or.inl ⟨by rfl, (fun W hSw => sat_run NwK (.tmp 47) rfl (b := tb) (k := 0) rfl (fun j hj => by rw [Nat.zero_add, hSw.2.cell]; rcases (show j = 0 ∨ j = 1 ∨ j = 2 ∨ j = 3 from by have h9 : j < 4 := hj; omega) with rfl | rfl | rfl | rfl <;> rfl) rfl)⟩) (by assumption) ?_
    try simp only [Act.put, List.getElem_toArray, List.getElem_cons_zero, List.getElem_cons_succ, List.setIfInBounds_toArray, List.set_cons_zero, List.set_cons_succ]
    refine wpAnyH_take (i := 8) (v := .agg (edL x).toArray) rfl (by kernel_rfl) (by kernel_rfl) (by kernel_rfl) (fun _ _ _ h => h) (Or.inl ⟨by rfl, (fun W hSw => Go.Proofs.Ythhdpfgepjmgkaa.Ge.sload_run EdK (.tmp 8) rfl (b := b8) rfl hSw.1 rfl)⟩) (by assumption) ?_
    try simp only [Act.put, List.getElem_toArray, List.getElem_cons_zero, List.getElem_cons_succ, List.setIfInBounds_toArray, List.set_cons_zero, List.set_cons_succ]
    refine wpAnyH_ready (rs := [9]) (by kernel_rfl) (by simp) ?_
    refine AllReadyH.cons rfl (fun K hK => ?_) AllReadyH.nil
    go_simp
    obtain ⟨ps, hps⟩ : ∃ y, decide (0 < cnt vs (x.t, x.f)) = y := ⟨_, rfl⟩
    have HPS : Hid (decide (0 < cnt vs (x.t, x.f)) = ps) := hps
    refine (stands_any b vs x ps hps wd (HNG.out.1.rd wd (HBID.out.bel.mono HNG.out.2))).mono ?_
    rintro e wf ⟨rfl, hbf⟩
    refine hK.out _ _ ⟨hHeld.1.blk (hbf.block b8 hHeld.1.lt), hHeld.2.blk (hbf.block tb hHeld.2.lt)⟩ (fun hHeld => ?_)
    have HBIF : Hid (BI w sb b4 vs root f U (L.take i) lst wf) := HBID.out.nx hbf
    have HS8F : Hid (SB EdK b8 (edL x) wf) := hHeld.1
    have HTF : Hid (SB TrK tb (trL b root kb) wf) := hHeld.2
    have HS9F : Hid (SB RcK b9 (rcL q) wf) := HS9D.out.blk (hbf.block b9 HS9D.out.lt)
    have HQOF : Hid (RcOk F wf q) := HQOD.out.bel hbf
    clear hK K hbf hps
    try simp only [Act.put, List.getElem_toArray, List.getElem_cons_zero, List.getElem_cons_succ, List.setIfInBounds_toArray, List.set_cons_zero, List.set_cons_succ]
    refine wpAnyH_take (i := 10) (v := .bool (!ps)) rfl (by kernel_rfl) (by kernel_rfl) (by kernel_rfl) (fun _ _ _ h => h) (Or.inl ⟨by rfl, ?_⟩) (by assumption) ?_
    case refine_1 => intro W hSw; go_simp; try rfl
    try simp only [Act.put, List.getElem_toArray, List.getElem_cons_zero, List.getElem_cons_succ, List.setIfInBounds_toArray, List.set_cons_zero, List.set_cons_succ]
    refine wpAnyH_take (i := 11) (v := .bool (!ps)) rfl (by kernel_rfl) (by kernel_rfl) (by kernel_rfl) (fun _ _ _ h => h) (Or.inl ⟨by rfl, ?_⟩) (by assumption) ?_
    case refine_1 => intro W hSw; go_simp; try rfl
    try simp only [Act.put, List.getElem_toArray, List.getElem_cons_zero, List.getElem_cons_succ, List.setIfInBounds_toArray, List.set_cons_zero, List.set_cons_succ]
    refine wpAnyH_done (by kernel_rfl) ?_ _
    clear hHeld hgt2 hdw
    cases ps
    case false =>
      have HSK : Hid (BI w sb b4 vs root f U (L.take (i + 1)) lst wf) := by
        obtain ⟨sv, sx, h1, h2, h3⟩ := HBIF.out.rs
        rw [HTK.out]
        exact ⟨HBIF.out.bel, HBIF.out.x4, sv, sx, h1, h2, h3.skip x (.inr ((by have h9 := HPS.out; unfold Pd; simpa using h9)))⟩
      simp only [Bool.not_false]
      go_wp2_with fail
      refine ⟨⟨i + 1, lst, by omega, by simp, rfl, HSK.out⟩, ?_⟩
      simp [intOf]
      omega
    simp only [Bool.not_true]
    have HPD : Hid (Pd vs x) := by have h9 := HPS.out; show Pd _ _; unfold Pd; simpa using h9
    by_cases hdl : dx < lst
    case pos =>
      obtain ⟨sv, sx, h1, h2, h3⟩ := HBIF.out.rs
      obtain ⟨cl, hsb, -⟩ := h1.ex
      have HSBF : Hid (SB StK sb [sv, .int .i64 (cl : Int)] wf) := hsb
      have HH3 : Hid (Bp vs root f (L.take i) lst sx) := h3
      clear h1 h2 h3 hsb
      go_wp2_with (refine list_sstore StK rfl _ _ rfl (b := sb) (cs := [sv, .int .i64 (cl : Int)]) (cs' := stz) rfl rfl HSBF.out rfl rfl rfl ?_)
      intro w14 hs14 hk14
      have HR14 : Hid (∃ sv' sx', Rs w.heap.size sb sv' sx' U w14 ∧ ¬ fpT sb sv' b4 ∧ ∀ sy, (∀ y, y ∈ sy ↔ y ∈ sx' ∨ Sr f root x y) → Bp vs root f (L.take (i + 1)) dx sy) := ⟨.slice none 0 0, [], Rs.zero hs14.out, (fun c => by
        rcases c with c | c
        · have := HSB.out; omega
        · cases c), fun sy hy => by
          have h9 := HH3.out.less x HPD.out (sy := sy) (by rw [HDX.out]; exact hdl) (fun y => (hy y).trans ⟨fun c => c.elim (fun c => absurd c List.not_mem_nil) id, .inr⟩)
          rw [HTK.out, ← HDX.out]
          exact h9⟩
      have HB14 : Hid (Below w.heap.size w w14 ∧ SB RcK b4 (rcL zr) w14) := ⟨HBIF.out.bel.trans (hk14.out.below HSB.out.1), HBIF.out.x4.blk (hk14.out.block b4 (by have := HSB.out; omega))⟩
      have HX14 : Hid (SB EdK b8 (edL x) w14 ∧ SB TrK tb (trL b root kb) w14 ∧ SB RcK b9 (rcL q) w14) := ⟨HS8F.out.blk (hk14.out.block b8 HNE8.out.1), HTF.out.blk (hk14.out.block tb HNE8.out.2.2), HS9F.out.blk (hk14.out.block b9 HNE8.out.2.1)⟩
      have HQ14 : Hid (RcOk F w14 q) := HQOF.out.blk (Nat.le_of_eq hk14.out.size.symm) (fun g hg hl => hk14.out.block g (fun c => by have h1 := HFS.out g hg; have h2 := HSB.out; omega))
      clear hs14 hk14 HSBF HH3
      go_upto_region 12 with fail
      obtain ⟨wh, hwh⟩ : ∃ y, w14.drew = y := ⟨_, rfl⟩
      have HWH : Hid (w14.drew = wh) := hwh
      have HBH : Hid (Below w14.heap.size w14 wh) := by rw [← hwh]; exact drew_bel w14
      have HX15 : Hid (SB EdK b8 (edL x) wh ∧ SB TrK tb (trL b root kb) wh) := ⟨HX14.out.1.blk (HBH.out.block b8 HX14.out.1.lt), HX14.out.2.1.blk (HBH.out.block tb HX14.out.2.1.lt)⟩
      have HX16 : Hid (SB RcK b9 (rcL q) wh) := HX14.out.2.2.blk (HBH.out.block b9 HX14.out.2.2.lt)
      have HQ16 : Hid (RcOk F wh q) := HQ14.out.bel HBH.out
      clear hwh
      refine wp_region_held_drew (S := fun W => SB EdK b8 (edL x) W ∧ SB TrK tb (trL b root kb) W) (by kernel_rfl) (by rw [HWH.out]; exact HX15.out) (fun hHeld => ?_)
      rw [HWH.out] at hHeld ⊢
      obtain ⟨rq, hrq⟩ : ∃ y, (x.f == root) = y := ⟨_, rfl⟩
      have HRQ : Hid ((x.f == root) = rq) := hrq
      clear hrq
      refine wpAnyH_take (i := 0) (v := .pointer (some ⟨b8, 0, none⟩)) rfl (by kernel_rfl) (by kernel_rfl) (by kernel_rfl) (fun _ _ _ h => h) (Or.inl ⟨by rfl, ?_⟩) (by assumption) ?_
      case refine_1 => intro W hSw; go_simp; try rfl
      try simp only [Act.put, List.getElem_toArray, List.getElem_cons_zero, List.getElem_cons_succ, List.setIfInBounds_toArray, List.set_cons_zero, List.set_cons_succ]
      refine wpAnyH_take (i := 1) (v := .int .i64 x.f) rfl (by kernel_rfl) (by kernel_rfl) (by kernel_rfl) (fun _ _ _ h => h) (Or.inl ⟨by rfl, ?_⟩) (by assumption) ?_
      case refine_1 => intro W hSw; have k1 : W.cell? ⟨b8, 0, none⟩ = some (.int .i64 x.f) := hSw.1.cell 0; go_simp; try rfl
      try simp only [Act.put, List.getElem_toArray, List.getElem_cons_zero, List.getElem_cons_succ, List.setIfInBounds_toArray, List.set_cons_zero, List.set_cons_succ]
      refine wpAnyH_take (i := 2) (v := .pointer (some ⟨tb, 0, none⟩)) rfl (by kernel_rfl) (by kernel_rfl) (by kernel_rfl) (fun _ _ _ h => h) (Or.inl ⟨by rfl, ?_⟩) (by assumption) ?_
      case refine_1 => intro W hSw; go_simp; try rfl
      try simp only [Act.put, List.getElem_toArray, List.getElem_cons_zero, List.getElem_cons_succ, List.setIfInBounds_toArray, List.set_cons_zero, List.set_cons_succ]
      refine wpAnyH_take (i := 3) (v := .pointer (some ⟨tb, 0, none⟩)) rfl (by kernel_rfl) (by kernel_rfl) (by kernel_rfl) (fun _ _ _ h => h) (Or.inl ⟨by rfl, ?_⟩) (by assumption) ?_
      case refine_1 => intro W hSw; go_simp; try rfl
      try simp only [Act.put, List.getElem_toArray, List.getElem_cons_zero, List.getElem_cons_succ, List.setIfInBounds_toArray, List.set_cons_zero, List.set_cons_succ]
      refine wpAnyH_take (i := 4) (v := .pointer (some ⟨tb, 4, none⟩)) rfl (by kernel_rfl) (by kernel_rfl) (by kernel_rfl) (fun _ _ _ h => h) (Or.inl ⟨by rfl, ?_⟩) (by assumption) ?_
      case refine_1 => intro W hSw; go_simp; try rfl
      try simp only [Act.put, List.getElem_toArray, List.getElem_cons_zero, List.getElem_cons_succ, List.setIfInBounds_toArray, List.set_cons_zero, List.set_cons_succ]
      refine wpAnyH_take (i := 5) (v := .int .i64 root) rfl (by kernel_rfl) (by kernel_rfl) (by kernel_rfl) (fun _ _ _ h => h) (Or.inl ⟨by rfl, ?_⟩) (by assumption) ?_
      case refine_1 => intro W hSw; have k1 : W.cell? ⟨tb, 4, none⟩ = some (.int .i64 root) := hSw.2.cell 4; go_simp; try rfl
      try simp only [Act.put, List.getElem_toArray, List.getElem_cons_zero, List.getElem_cons_succ, List.setIfInBounds_toArray, List.set_cons_zero, List.set_cons_succ]
      refine wpAnyH_take (i := 6) (v := .bool rq) rfl (by kernel_rfl) (by kernel_rfl) (by kernel_rfl) (fun _ _ _ h => h) (Or.inl ⟨by rfl, ?_⟩) (by assumption) ?_
      case refine_1 => intro W hSw; go_simp; first | exact HRQ.out | (simpa using HRQ.out) | rfl
      try simp only [Act.put, List.getElem_toArray, List.getElem_cons_zero, List.getElem_cons_succ, List.setIfInBounds_toArray, List.set_cons_zero, List.set_cons_succ]
      refine wpAnyH_done (by kernel_rfl) ?_ _
      clear hHeld
      obtain ⟨sv7, sx7, hr7, hb7, hbp7⟩ := HR14.out
      have HRS7 : Hid (Rs w.heap.size sb sv7 sx7 U wh) := hr7.bel HBH.out
      have HRS4 : Hid (¬ fpT sb sv7 b4) := hb7
      have HBPY : Hid (∀ sy, (∀ y, y ∈ sy ↔ y ∈ sx7 ∨ Sr f root x y) → Bp vs root f (L.take (i + 1)) dx sy) := hbp7
      have HB16 : Hid (Below w.heap.size w wh ∧ SB RcK b4 (rcL zr) wh) := ⟨HB14.out.1.trans (HBH.out.mono HB14.out.1.size), HB14.out.2.blk (HBH.out.block b4 HB14.out.2.lt)⟩
      have HFP : Hid (∀ g, fpT sb sv7 g → w.heap.size ≤ g) := fun g hg => by
        rcases hg with c | c
        · have := HSB.out; omega
        · exact (HRS7.out.own.row.lt g c).1
      clear hr7 hb7 hbp7
      cases rq
      case true =>
        have HSR : Hid (∀ y, Sr f root x y ↔ y = x.l) := fun y => by unfold Sr; rw [if_pos (by simpa using HRQ.out)]
        have c83 : wh.cell? ⟨b8, 3, none⟩ = some (.int .i64 x.l) := HX15.out.1.cell 3
        go_wp2_with (refine list_ibuild rfl _ rfl (m := x.l) rfl ?_)
        intro b17 w17 hb17 hl17 hbl17
        have HL17 : Hid (Lst EI w17 (some ⟨b17, 0, none⟩) [x.l]) := hl17.out
        have HRS17 : Hid (Rs w.heap.size sb sv7 sx7 U w17) := HRS7.out.bel hbl17.out
        have HB17 : Hid (Below w.heap.size w w17 ∧ SB RcK b4 (rcL zr) w17) := ⟨HB16.out.1.trans (hbl17.out.mono HB16.out.1.size), HB16.out.2.blk (hbl17.out.block b4 HB16.out.2.lt)⟩
        clear hb17 hl17 hbl17 c83
        go_wp2_with fail
        refine (sadd_any w.heap.size sb sv7 sx7 U (some ⟨b17, 0, none⟩) 1 1 [x.l] w17 HB17.out.1.size HF.out.2 HRS17.out rfl HL17.out (fun e => by cases e) (by omega) (fun y hy => by rw [List.mem_singleton] at hy; rw [hy]; exact HXC.out.2.2)).mono ?_
        rintro e w19 ⟨rfl, sv9, sx9, hr9, hp9, hk9, hv9⟩
        have HG : Hid (BI w sb b4 vs root f U (L.take (i + 1)) dx w19 ) := by
          have hb19 : Below w.heap.size w w19 := HB17.out.1.trans (hk9.below HB17.out.1.size (fun g hg => HFP.out g hg))
          refine ⟨hb19, HB17.out.2.blk (hk9.blk b4 HB17.out.2.lt HRS4.out), sv9, sx9, hr9, fun c => ?_, HBPY.out sx9 (fun y => (hp9 y).trans (by rw [HSR.out y, List.mem_singleton]))⟩
          rcases c with c | c
          · exact HRS4.out (.inl c)
          · rcases hv9 b4 c with h | h
            · exact HRS4.out (.inr h)
            · have := HB17.out.2.lt; omega
        clear hr9 hp9 hk9 hv9
        go_wp2_with fail
        refine ⟨⟨i + 1, dx, by omega, by simp, rfl, HG.out⟩, ?_⟩
        simp [intOf]
        omega
      have HSR : Hid (∀ y, Sr f root x y ↔ y ∈ q.ls) := fun y => by unfold Sr; rw [if_neg (by simpa using HRQ.out), HQ.out.2]
      have c92 : wh.cell? ⟨b9, 2, none⟩ = some (.slice q.a q.ls.length q.c) := HX16.out.cell 2
      have HB17 : Hid (Below w.heap.size w wh ∧ SB RcK b4 (rcL zr) wh) := HB16.out
      go_wp2_with fail
      refine (sadd_any w.heap.size sb sv7 sx7 U q.a q.ls.length q.c q.ls wh HB17.out.1.size HF.out.2 HRS7.out rfl HQ16.out.l HQ16.out.z HQB.out.2.2.2 HQB.out.2.2.1).mono ?_
      rintro e w19 ⟨rfl, sv9, sx9, hr9, hp9, hk9, hv9⟩
      have HG : Hid (BI w sb b4 vs root f U (L.take (i + 1)) dx w19 ) := by
        have hb19 : Below w.heap.size w w19 := HB17.out.1.trans (hk9.below HB17.out.1.size (fun g hg => HFP.out g hg))
        refine ⟨hb19, HB17.out.2.blk (hk9.blk b4 HB17.out.2.lt HRS4.out), sv9, sx9, hr9, fun c => ?_, HBPY.out sx9 (fun y => (hp9 y).trans (by rw [HSR.out y]))⟩
        rcases c with c | c
        · exact HRS4.out (.inl c)
        · rcases hv9 b4 c with h | h
          · exact HRS4.out (.inr h)
          · have := HB17.out.2.lt; omega
      clear hr9 hp9 hk9 hv9
      go_wp2_with fail
      refine ⟨⟨i + 1, dx, by omega, by simp, rfl, HG.out⟩, ?_⟩
      simp [intOf]
      omega
    have hdle : dx = lst := by have := HGT.out; omega
    obtain ⟨sv, sx, h1, h2, h3⟩ := HBIF.out.rs
    have HR14 : Hid (∃ sv' sx', Rs w.heap.size sb sv' sx' U wf ∧ ¬ fpT sb sv' b4 ∧ ∀ sy, (∀ y, y ∈ sy ↔ y ∈ sx' ∨ Sr f root x y) → Bp vs root f (L.take (i + 1)) lst sy) := ⟨sv, sx, h1, h2, fun sy hy => by
      rw [HTK.out]
      exact h3.same x HPD.out (by rw [HDX.out]; exact hdle) hy⟩
    have HB14 : Hid (Below w.heap.size w wf ∧ SB RcK b4 (rcL zr) wf) := ⟨HBIF.out.bel, HBIF.out.x4⟩
    have HX14 : Hid (SB EdK b8 (edL x) wf ∧ SB TrK tb (trL b root kb) wf ∧ SB RcK b9 (rcL q) wf) := ⟨HS8F.out, HTF.out, HS9F.out⟩
    have HQ14 : Hid (RcOk F wf q) := HQOF.out
    clear h1 h2 h3 hdle
    go_upto_region 12 with fail
    obtain ⟨wh, hwh⟩ : ∃ y, wf.drew = y := ⟨_, rfl⟩
    have HWH : Hid (wf.drew = wh) := hwh
    have HBH : Hid (Below wf.heap.size wf wh) := by rw [← hwh]; exact drew_bel wf
    have HX15 : Hid (SB EdK b8 (edL x) wh ∧ SB TrK tb (trL b root kb) wh) := ⟨HX14.out.1.blk (HBH.out.block b8 HX14.out.1.lt), HX14.out.2.1.blk (HBH.out.block tb HX14.out.2.1.lt)⟩
    have HX16 : Hid (SB RcK b9 (rcL q) wh) := HX14.out.2.2.blk (HBH.out.block b9 HX14.out.2.2.lt)
    have HQ16 : Hid (RcOk F wh q) := HQ14.out.bel HBH.out
    clear hwh
    refine wp_region_held_drew (S := fun W => SB EdK b8 (edL x) W ∧ SB TrK tb (trL b root kb) W) (by kernel_rfl) (by rw [HWH.out]; exact HX15.out) (fun hHeld => ?_)
    rw [HWH.out] at hHeld ⊢
    obtain ⟨rq, hrq⟩ : ∃ y, (x.f == root) = y := ⟨_, rfl⟩
    have HRQ : Hid ((x.f == root) = rq) := hrq
    clear hrq
    refine wpAnyH_take (i := 0) (v := .pointer (some ⟨b8, 0, none⟩)) rfl (by kernel_rfl) (by kernel_rfl) (by kernel_rfl) (fun _ _ _ h => h) (Or.inl ⟨by rfl, ?_⟩) (by assumption) ?_
    case refine_1 => intro W hSw; go_simp; try rfl
    try simp only [Act.put, List.getElem_toArray, List.getElem_cons_zero, List.getElem_cons_succ, List.setIfInBounds_toArray, List.set_cons_zero, List.set_cons_succ]
    refine wpAnyH_take (i := 1) (v := .int .i64 x.f) rfl (by kernel_rfl) (by kernel_rfl) (by kernel_rfl) (fun _ _ _ h => h) (Or.inl ⟨by rfl, ?_⟩) (by assumption) ?_
    case refine_1 => intro W hSw; have k1 : W.cell? ⟨b8, 0, none⟩ = some (.int .i64 x.f) := hSw.1.cell 0; go_simp; try rfl
    try simp only [Act.put, List.getElem_toArray, List.getElem_cons_zero, List.getElem_cons_succ, List.setIfInBounds_toArray, List.set_cons_zero, List.set_cons_succ]
    refine wpAnyH_take (i := 2) (v := .pointer (some ⟨tb, 0, none⟩)) rfl (by kernel_rfl) (by kernel_rfl) (by kernel_rfl) (fun _ _ _ h => h) (Or.inl ⟨by rfl, ?_⟩) (by assumption) ?_
    case refine_1 => intro W hSw; go_simp; try rfl
    try simp only [Act.put, List.getElem_toArray, List.getElem_cons_zero, List.getElem_cons_succ, List.setIfInBounds_toArray, List.set_cons_zero, List.set_cons_succ]
    refine wpAnyH_take (i := 3) (v := .pointer (some ⟨tb, 0, none⟩)) rfl (by kernel_rfl) (by kernel_rfl) (by kernel_rfl) (fun _ _ _ h => h) (Or.inl ⟨by rfl, ?_⟩) (by assumption) ?_
    case refine_1 => intro W hSw; go_simp; try rfl
    try simp only [Act.put, List.getElem_toArray, List.getElem_cons_zero, List.getElem_cons_succ, List.setIfInBounds_toArray, List.set_cons_zero, List.set_cons_succ]
    refine wpAnyH_take (i := 4) (v := .pointer (some ⟨tb, 4, none⟩)) rfl (by kernel_rfl) (by kernel_rfl) (by kernel_rfl) (fun _ _ _ h => h) (Or.inl ⟨by rfl, ?_⟩) (by assumption) ?_
    case refine_1 => intro W hSw; go_simp; try rfl
    try simp only [Act.put, List.getElem_toArray, List.getElem_cons_zero, List.getElem_cons_succ, List.setIfInBounds_toArray, List.set_cons_zero, List.set_cons_succ]
    refine wpAnyH_take (i := 5) (v := .int .i64 root) rfl (by kernel_rfl) (by kernel_rfl) (by kernel_rfl) (fun _ _ _ h => h) (Or.inl ⟨by rfl, ?_⟩) (by assumption) ?_
    case refine_1 => intro W hSw; have k1 : W.cell? ⟨tb, 4, none⟩ = some (.int .i64 root) := hSw.2.cell 4; go_simp; try rfl
    try simp only [Act.put, List.getElem_toArray, List.getElem_cons_zero, List.getElem_cons_succ, List.setIfInBounds_toArray, List.set_cons_zero, List.set_cons_succ]
    refine wpAnyH_take (i := 6) (v := .bool rq) rfl (by kernel_rfl) (by kernel_rfl) (by kernel_rfl) (fun _ _ _ h => h) (Or.inl ⟨by rfl, ?_⟩) (by assumption) ?_
    case refine_1 => intro W hSw; go_simp; first | exact HRQ.out | (simpa using HRQ.out) | rfl
    try simp only [Act.put, List.getElem_toArray, List.getElem_cons_zero, List.getElem_cons_succ, List.setIfInBounds_toArray, List.set_cons_zero, List.set_cons_succ]
    refine wpAnyH_done (by kernel_rfl) ?_ _
    clear hHeld
    obtain ⟨sv7, sx7, hr7, hb7, hbp7⟩ := HR14.out
    have HRS7 : Hid (Rs w.heap.size sb sv7 sx7 U wh) := hr7.bel HBH.out
    have HRS4 : Hid (¬ fpT sb sv7 b4) := hb7
    have HBPY : Hid (∀ sy, (∀ y, y ∈ sy ↔ y ∈ sx7 ∨ Sr f root x y) → Bp vs root f (L.take (i + 1)) lst sy) := hbp7
    have HB16 : Hid (Below w.heap.size w wh ∧ SB RcK b4 (rcL zr) wh) := ⟨HB14.out.1.trans (HBH.out.mono HB14.out.1.size), HB14.out.2.blk (HBH.out.block b4 HB14.out.2.lt)⟩
    have HFP : Hid (∀ g, fpT sb sv7 g → w.heap.size ≤ g) := fun g hg => by
      rcases hg with c | c
      · have := HSB.out; omega
      · exact (HRS7.out.own.row.lt g c).1
    clear hr7 hb7 hbp7
    cases rq
    case true =>
      have HSR : Hid (∀ y, Sr f root x y ↔ y = x.l) := fun y => by unfold Sr; rw [if_pos (by simpa using HRQ.out)]
      have c83 : wh.cell? ⟨b8, 3, none⟩ = some (.int .i64 x.l) := HX15.out.1.cell 3
      go_wp2_with (refine list_ibuild rfl _ rfl (m := x.l) rfl ?_)
      intro b17 w17 hb17 hl17 hbl17
      have HL17 : Hid (Lst EI w17 (some ⟨b17, 0, none⟩) [x.l]) := hl17.out
      have HRS17 : Hid (Rs w.heap.size sb sv7 sx7 U w17) := HRS7.out.bel hbl17.out
      have HB17 : Hid (Below w.heap.size w w17 ∧ SB RcK b4 (rcL zr) w17) := ⟨HB16.out.1.trans (hbl17.out.mono HB16.out.1.size), HB16.out.2.blk (hbl17.out.block b4 HB16.out.2.lt)⟩
      clear hb17 hl17 hbl17 c83
      go_wp2_with fail
      refine (sadd_any w.heap.size sb sv7 sx7 U (some ⟨b17, 0, none⟩) 1 1 [x.l] w17 HB17.out.1.size HF.out.2 HRS17.out rfl HL17.out (fun e => by cases e) (by omega) (fun y hy => by rw [List.mem_singleton] at hy; rw [hy]; exact HXC.out.2.2)).mono ?_
      rintro e w19 ⟨rfl, sv9, sx9, hr9, hp9, hk9, hv9⟩
      have HG : Hid (BI w sb b4 vs root f U (L.take (i + 1)) lst w19 ) := by
        have hb19 : Below w.heap.size w w19 := HB17.out.1.trans (hk9.below HB17.out.1.size (fun g hg => HFP.out g hg))
        refine ⟨hb19, HB17.out.2.blk (hk9.blk b4 HB17.out.2.lt HRS4.out), sv9, sx9, hr9, fun c => ?_, HBPY.out sx9 (fun y => (hp9 y).trans (by rw [HSR.out y, List.mem_singleton]))⟩
        rcases c with c | c
        · exact HRS4.out (.inl c)
        · rcases hv9 b4 c with h | h
          · exact HRS4.out (.inr h)
          · have := HB17.out.2.lt; omega
      clear hr9 hp9 hk9 hv9
      go_wp2_with fail
      refine ⟨⟨i + 1, lst, by omega, by simp, rfl, HG.out⟩, ?_⟩
      simp [intOf]
      omega
    have HSR : Hid (∀ y, Sr f root x y ↔ y ∈ q.ls) := fun y => by unfold Sr; rw [if_neg (by simpa using HRQ.out), HQ.out.2]
    have c92 : wh.cell? ⟨b9, 2, none⟩ = some (.slice q.a q.ls.length q.c) := HX16.out.cell 2
    have HB17 : Hid (Below w.heap.size w wh ∧ SB RcK b4 (rcL zr) wh) := HB16.out
    go_wp2_with fail
    refine (sadd_any w.heap.size sb sv7 sx7 U q.a q.ls.length q.c q.ls wh HB17.out.1.size HF.out.2 HRS7.out rfl HQ16.out.l HQ16.out.z HQB.out.2.2.2 HQB.out.2.2.1).mono ?_
    rintro e w19 ⟨rfl, sv9, sx9, hr9, hp9, hk9, hv9⟩
    have HG : Hid (BI w sb b4 vs root f U (L.take (i + 1)) lst w19 ) := by
      have hb19 : Below w.heap.size w w19 := HB17.out.1.trans (hk9.below HB17.out.1.size (fun g hg => HFP.out g hg))
      refine ⟨hb19, HB17.out.2.blk (hk9.blk b4 HB17.out.2.lt HRS4.out), sv9, sx9, hr9, fun c => ?_, HBPY.out sx9 (fun y => (hp9 y).trans (by rw [HSR.out y]))⟩
      rcases c with c | c
      · exact HRS4.out (.inl c)
      · rcases hv9 b4 c with h | h
        · exact HRS4.out (.inr h)
        · have := HB17.out.2.lt; omega
    clear hr9 hp9 hk9 hv9
    go_wp2_with fail
    refine ⟨⟨i + 1, lst, by omega, by simp, rfl, HG.out⟩, ?_⟩
    simp [intOf]
    omega
end Go.Proofs.Ythhdpfgepjmgkaa.Dj
