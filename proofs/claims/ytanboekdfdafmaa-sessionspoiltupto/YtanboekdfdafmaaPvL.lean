/- The attributes of a message: attributesOf. -/
import Derived.Test.YtanboekdfdafmaaPvK
import Derived.Test.YtanboekdfdafmaaPvG
import Derived.BigRegion
namespace Go.Proofs.Ytanboekdfdafmaa.Pv
open Go.ChangeShapes Go.WideShapes Go.ChangeAt Go.RowKit Go.Joins Go.Proofs.Ytanboekdfdafmaa.PM Go.Proofs.Ytanboekdfdafmaa.Ask Go.Proofs.Ytanboekdfdafmaa.Ge
set_option linter.unusedVariables false

theorem attrIf_len (k size : Nat) (t : Bool) (xs : List Int) : (attrIf k size t xs).length ≤ 3 + size * xs.length := by
  unfold attrIf
  cases t with
  | false => simp
  | true =>
    rw [if_pos rfl]
    unfold attr piece
    rw [List.length_append, List.length_append, big_len, big_len, wordsB_len]
    omega
/-- what a route in range keeps to -/
structure RR (r : Rt) : Prop where
  org : 0 ≤ r.org ∧ r.org ≤ 2
  med : 0 ≤ r.med ∧ r.med ≤ 4294967295
  pref : 0 ≤ r.pref ∧ r.pref ≤ 4294967295
  auth : 0 ≤ r.auth ∧ r.auth ≤ 4294967295
  lp : r.path.length ≤ 64
  path : ∀ x ∈ r.path, 1 ≤ x ∧ x ≤ 4294967295
  lm : r.marks.length ≤ 32
  marks : ∀ x ∈ r.marks, 0 ≤ x ∧ x ≤ 4294967295
  lcl : r.clus.length ≤ 32
  clus : ∀ x ∈ r.clus, 0 ≤ x ∧ x ≤ 4294967295
theorem rr_of {r : Rt} (h : routeR r = true) : RR r := by
  unfold routeR isNo isNm at h
  simp only [Bool.and_eq_true, List.all_eq_true, wi_iff, decide_eq_true_eq] at h
  obtain ⟨⟨⟨⟨⟨⟨⟨⟨⟨h1, h2⟩, h3⟩, h4⟩, h5⟩, h6⟩, h7⟩, h8⟩, h9⟩, h10⟩ := h
  exact ⟨h1, h2, h3, h4, h5, h6, h7, h8, h9, h10⟩
/-- a number just boxed is put -/
theorem attr1_any {N bb : Nat} {w1 W : World} {bs : List Nat} (h : AtB N bb w1 W bs) (hB : bb < N) (hN : N ≤ w1.heap.size) (kind size : Nat) (hk : kind < 256) (hs : size ≤ 8) (there : Bool) (x : Int) (hx : 0 ≤ x ∧ x < 9223372036854775808) (hbl : bs.length ≤ 100000) :
    Calls Try.prog 68 #[.int .i64 (kind : Int), .int .i64 (size : Int), .bool there, .slice (some ⟨W.heap.size, 0, none⟩) 1 1, .pointer (some ⟨bb, 0, none⟩)] (W.alloc (Obj.cells #[.int .i64 x] 3)) fun e w' => (∃ u, e = .returned u) ∧ AtB N bb w1 w' (bs ++ attrIf kind size there [x]) := by
  obtain ⟨W', hW'⟩ : ∃ W', W.alloc (Obj.cells #[.int .i64 x] 3) = W' := ⟨_, rfl⟩
  obtain ⟨v, hc, ho⟩ := h.row
  obtain ⟨m1, m2⟩ := own_made EI (W := W) (W' := W') [x] 1 rfl (by decide) hW'
  have hsz := h.str.size
  have hlt : bb < W.heap.size := by omega
  rw [hW']
  refine (attr_any N bb v bs kind size hk hs there _ 1 1 [x] W' m1.lst.1 rfl (fun y hy => by simp at hy; subst hy; exact hx) hbl (by decide) hB (by have := m2.size; omega) ((World.cell?_of_block (w := W) (m2.block bb hlt)).trans hc) ((World.frozen?_of_block (w := W) (m2.block bb hlt)).trans h.fz) (ho.bel m2)).mono ?_
  rintro e w' ⟨hu, ha⟩
  exact ⟨hu, ⟨ha.row, ha.fz, h.str.trans ((m2.mono (Nat.zero_le _)).trans ha.str), fun k hk hne => (ha.block k hk hne).trans ((m2.block k (by omega)).trans (h.block k hk hne))⟩⟩
/-- numbers that lie somewhere are put -/
theorem attrL_any {N bb : Nat} {w1 W : World} {bs : List Nat} (h : AtB N bb w1 W bs) (hB : bb < N) (hN : N ≤ w1.heap.size) (kind size : Nat) (hk : kind < 256) (hs : size ≤ 8) (there : Bool) (a : Option Addr) (n cap : Nat) (xs : List Int) (hl : Lst EI W a xs) (hn : xs.length = n) (hnl : n ≤ 1000) (hx : ∀ x ∈ xs, 0 ≤ x ∧ x < 9223372036854775808) (hbl : bs.length ≤ 100000) :
    Calls Try.prog 68 #[.int .i64 (kind : Int), .int .i64 (size : Int), .bool there, .slice a n cap, .pointer (some ⟨bb, 0, none⟩)] W fun e w' => (∃ u, e = .returned u) ∧ AtB N bb w1 w' (bs ++ attrIf kind size there xs) := by
  obtain ⟨v, hc, ho⟩ := h.row
  have hsz := h.str.size
  refine (attr_any N bb v bs kind size hk hs there a n cap xs W hl hn hx hbl hnl hB (by omega) hc h.fz ho).mono ?_
  rintro e w' ⟨hu, ha⟩
  exact ⟨hu, h.trans ha⟩
set_option maxRecDepth 100000 in
set_option maxHeartbeats 16000000 in
theorem attributesOf_any (m : Ms) (s : Sl) (w : World) (hok : MOk w m s) (hr : routeR m.rt = true) :
    Calls Try.prog 54 #[msV m s] w fun e w' => ∃ v, e = .returned v ∧ OwnL E8 w.heap.size w' v (attrs m) ∧ Below w.heap.size w w' := by
  have HOK : Hid (MOk w m s) := hok
  have HR : Hid (routeR m.rt = true) := hr
  obtain ⟨n1, hn1⟩ : ∃ n, m.lost.length = n := ⟨_, rfl⟩
  have HN1 : Hid (m.lost.length = n1) := hn1
  obtain ⟨n2, hn2⟩ : ∃ n, m.hv.length = n := ⟨_, rfl⟩
  have HN2 : Hid (m.hv.length = n2) := hn2
  obtain ⟨q1, hq1⟩ : ∃ n, m.rt.path.length = n := ⟨_, rfl⟩
  have HQ1 : Hid (m.rt.path.length = q1) := hq1
  obtain ⟨q2, hq2⟩ : ∃ n, m.rt.marks.length = n := ⟨_, rfl⟩
  have HQ2 : Hid (m.rt.marks.length = q2) := hq2
  obtain ⟨q3, hq3⟩ : ∃ n, m.rt.clus.length = n := ⟨_, rfl⟩
  have HQ3 : Hid (m.rt.clus.length = q3) := hq3
  have HV : Hid (msV m s = .agg #[.int .i64 m.kind, .int .i64 m.dom, .int .i64 m.id, .int .i64 m.hold, .int .i64 m.code, .slice s.l n1 s.lc, .slice s.h n2 s.hc, .int .u32 m.rt.pa, .int .i64 m.rt.pn, .slice s.p q1 s.pc, .int .i64 m.rt.org, .int .i64 m.rt.pref, .int .i64 m.rt.med, .int .u32 m.rt.next, .slice s.m q2 s.mc, .slice s.c q3 s.cc, .int .i64 m.rt.auth]) := by unfold msV; rw [hn1, hn2, hq1, hq2, hq3]; rfl
  rw [HV.out]
  clear hn1 hn2 hq1 hq2 hq3 hok hr
  go_enter Try.func54, Try.ntmps54
  go_upto_region 3 with fail
  obtain ⟨wZ, hwZ⟩ : ∃ w0, w.alloc (Obj.cells #[.int .i64 m.kind, .int .i64 m.dom, .int .i64 m.id, .int .i64 m.hold, .int .i64 m.code, .slice s.l n1 s.lc, .slice s.h n2 s.hc, .int .u32 m.rt.pa, .int .i64 m.rt.pn, .slice s.p q1 s.pc, .int .i64 m.rt.org, .int .i64 m.rt.pref, .int .i64 m.rt.med, .int .u32 m.rt.next, .slice s.m q2 s.mc, .slice s.c q3 s.cc, .int .i64 m.rt.auth] 54) = w0 := ⟨_, rfl⟩
  obtain ⟨hbx, hbZ, hsZ⟩ := mbox_new (m := m) (s := s) (w := w) (W := wZ) (by rw [HN1.out, HN2.out, HQ1.out, HQ2.out, HQ3.out]; exact hwZ)
  rw [hwZ]
  obtain ⟨w0, hw0⟩ : ∃ w0, wZ.alloc (Obj.cells #[.slice none 0 0] 32) = w0 := ⟨_, rfl⟩
  rw [hw0]
  have hb0 : Below wZ.heap.size wZ w0 := by rw [← hw0]; exact (Below.refl _ wZ).alloc (Nat.le_refl _) _
  have hs0 : w0.heap.size = w.heap.size + 2 := by rw [← hw0]; simp; omega
  have hc0 : w0.cell? ⟨w.heap.size + 1, 0, none⟩ = some (.slice none 0 0) := by rw [← hw0, ← hsZ]; simp
  have hf0 : w0.frozen? ⟨w.heap.size + 1, 0, none⟩ = false := by rw [← hw0, ← hsZ]; simp [go_sem]
  obtain ⟨b, hb⟩ : ∃ b, w.heap.size = b := ⟨_, rfl⟩
  have HX0 : Hid (MBox b m s w0) := by rw [← hb]; exact hbx.blk (hb0.block _ (by omega))
  have HB0 : Hid (Below w.heap.size w w0) := hbZ.trans (hb0.mono hbZ.size)
  have HO0 : Hid (MOk w0 m s) := HOK.out.bel HB0.out
  rw [hb] at hs0 hc0 hf0 ⊢
  have HBZ : Hid (w.heap.size = b) := hb
  clear hwZ hw0 hb0 hbx hbZ hsZ hb
  obtain ⟨c0, c1, c2, c3, c4, c5, c6, c7, c8, c9, c10, c11, c12, c13, c14, c15, c16⟩ := HX0.out
  rw [HN1.out] at c5
  rw [HN2.out] at c6
  rw [HQ1.out] at c9
  rw [HQ2.out] at c14
  rw [HQ3.out] at c15
  go_region
  have hRR : RR m.rt := rr_of HR.out
  obtain ⟨w1, hw1⟩ : ∃ w1, w0.alloc (Obj.cells #[.int .u32 m.rt.pa, .int .i64 m.rt.pn, .slice s.p q1 s.pc, .int .i64 m.rt.org, .int .i64 m.rt.pref, .int .i64 m.rt.med, .int .u32 m.rt.next, .slice s.m q2 s.mc, .slice s.c q3 s.cc, .int .i64 m.rt.auth] 52) = w1 := ⟨_, rfl⟩
  obtain ⟨hrx, hb1, hs1⟩ := rbox_new (r := m.rt) (s := s) (w := w0) (W := w1) (by rw [HQ1.out, HQ2.out, HQ3.out]; exact hw1)
  rw [hw1]
  obtain ⟨w2, hw2⟩ : ∃ w2, w1.drew = w2 := ⟨_, rfl⟩
  rw [hw2]
  have hb2 : Below w1.heap.size w1 w2 := by rw [← hw2]; exact (Below.refl _ _).drew
  have hs2 : w2.heap.size = b + 3 := by rw [← hw2]; show w1.heap.size = b + 3; omega
  have HRX : Hid (RBox (b + 2) m.rt s w2) := by rw [← hs0]; exact hrx.blk (hb2.block _ (by omega))
  have hbe : Below w0.heap.size w0 w2 := hb1.trans (hb2.mono (by omega))
  have HB2 : Hid (Below w.heap.size w w2) := HB0.out.trans (hbe.mono HB0.out.size)
  have HO2 : Hid (MOk w2 m s) := HO0.out.bel hbe
  have HA0 : Hid (AtB (b + 3) (b + 1) w2 w2 []) := ⟨⟨.slice none 0 0, (World.cell?_of_block (w := w0) (hbe.block (b + 1) (by omega))).trans hc0, OwnL.nil _ _ _⟩, (World.frozen?_of_block (w := w0) (hbe.block (b + 1) (by omega))).trans hf0, Below.refl _ _, fun _ _ _ => rfl⟩
  have HRW : Hid (∀ W bs, AtB (b + 3) (b + 1) w2 W bs → RBox (b + 2) m.rt s W ∧ Below b w2 W) := fun W bs h => ⟨HRX.out.blk (h.block (b + 2) (by omega) (by omega)), ⟨h.str.os, h.str.tape, h.str.output, h.str.size, fun k hk => h.block k (by omega) (by omega)⟩⟩
  have hN : b + 3 ≤ w2.heap.size := by omega
  have HBW : Hid (∀ W bs, AtB (b + 3) (b + 1) w2 W bs → Below w.heap.size w W) := fun W bs h => HB2.out.trans (by rw [HBZ.out]; exact (HRW.out W bs h).2)
  have HLP : Hid (∀ W bs, AtB (b + 3) (b + 1) w2 W bs → Lst EI W s.p m.rt.path ∧ Lst EI W s.m m.rt.marks ∧ Lst EI W s.c m.rt.clus) := fun W bs h => ⟨HOK.out.r.p.bel (HBW.out W bs h), HOK.out.r.m.bel (HBW.out W bs h), HOK.out.r.c.bel (HBW.out W bs h)⟩
  have HQ1L : Hid (m.rt.path.length ≤ 64) := hRR.lp
  have HQ2L : Hid (m.rt.marks.length ≤ 32) := hRR.lm
  have HQ3L : Hid (m.rt.clus.length ≤ 32) := hRR.lcl
  have hn0 := HOK.out.r.n0
  have hn1 := HOK.out.r.n1
  have HRR : Hid (RR m.rt) := hRR
  clear hRR hs2 hw1 hrx hb1 hs1 hw2 hb2 hbe hc0 hf0 hs0 c0 c1 c2 c3 c4 c5 c6 c7 c8 c9 c10 c11 c12 c13 c14 c15 c16 HX0 HB0 HO0 HR
  obtain ⟨r0, r1, r2, r3, r4, r5, r6, r7, r8, r9⟩ := (HRW.out _ _ HA0.out).1
  rw [HQ1.out] at r2
  rw [HQ2.out] at r7
  rw [HQ3.out] at r8
  go_wp2_with fail
  refine (attr1_any HA0.out (by omega) hN 1 1 (by decide) (by decide) (decide (0 < n2)) m.rt.org ⟨HRR.out.org.1, by have := HRR.out.org.2; omega⟩ (by simp)).mono ?_
  rintro e y1 ⟨⟨x1, rfl⟩, ha1⟩
  have HA1 : Hid (AtB (b + 3) (b + 1) w2 y1 ([] ++ attrIf 1 1 (decide (0 < n2)) [m.rt.org])) := ha1
  clear ha1 r0 r1 r2 r3 r4 r5 r6 r7 r8 r9
  obtain ⟨r0, r1, r2, r3, r4, r5, r6, r7, r8, r9⟩ := (HRW.out _ _ HA1.out).1
  rw [HQ1.out] at r2
  rw [HQ2.out] at r7
  rw [HQ3.out] at r8
  go_wp2_with fail
  refine (attrL_any HA1.out (by omega) hN 2 4 (by decide) (by decide) (decide (0 < n2)) s.p q1 s.pc m.rt.path (HLP.out _ _ HA1.out).1 HQ1.out (by have := HQ1L.out; have := HQ1.out; omega) (fun x hx => by have := HRR.out.path x hx; omega) (by have := HQ1L.out; have := HQ2L.out; have := HQ3L.out; simp only [List.length_append, List.length_nil]; have l1 := attrIf_len 1 1 (decide (0 < n2)) [m.rt.org]; simp only [List.length_cons, List.length_nil] at l1; omega)).mono ?_
  rintro e y2 ⟨⟨x2, rfl⟩, ha2⟩
  have HA2 : Hid (AtB (b + 3) (b + 1) w2 y2 ([] ++ attrIf 1 1 (decide (0 < n2)) [m.rt.org] ++ attrIf 2 4 (decide (0 < n2)) m.rt.path)) := ha2
  clear ha2 r0 r1 r2 r3 r4 r5 r6 r7 r8 r9
  obtain ⟨r0, r1, r2, r3, r4, r5, r6, r7, r8, r9⟩ := (HRW.out _ _ HA2.out).1
  rw [HQ1.out] at r2
  rw [HQ2.out] at r7
  rw [HQ3.out] at r8
  go_wp2_with fail
  refine (attr1_any HA2.out (by omega) hN 3 4 (by decide) (by decide) (decide (0 < n2)) m.rt.next ⟨hn0, by omega⟩ (by have := HQ1L.out; have := HQ2L.out; have := HQ3L.out; simp only [List.length_append, List.length_nil]; have l1 := attrIf_len 1 1 (decide (0 < n2)) [m.rt.org]; have l2 := attrIf_len 2 4 (decide (0 < n2)) m.rt.path; simp only [List.length_cons, List.length_nil] at l1 l2; omega)).mono ?_
  rintro e y3 ⟨⟨x3, rfl⟩, ha3⟩
  have HA3 : Hid (AtB (b + 3) (b + 1) w2 y3 ([] ++ attrIf 1 1 (decide (0 < n2)) [m.rt.org] ++ attrIf 2 4 (decide (0 < n2)) m.rt.path ++ attrIf 3 4 (decide (0 < n2)) [m.rt.next])) := ha3
  clear ha3 r0 r1 r2 r3 r4 r5 r6 r7 r8 r9
  obtain ⟨r0, r1, r2, r3, r4, r5, r6, r7, r8, r9⟩ := (HRW.out _ _ HA3.out).1
  rw [HQ1.out] at r2
  rw [HQ2.out] at r7
  rw [HQ3.out] at r8
  go_wp2_with fail
  refine (attr1_any HA3.out (by omega) hN 4 4 (by decide) (by decide) (m.rt.med != 0) m.rt.med ⟨HRR.out.med.1, by have := HRR.out.med.2; omega⟩ (by have := HQ1L.out; have := HQ2L.out; have := HQ3L.out; simp only [List.length_append, List.length_nil]; have l1 := attrIf_len 1 1 (decide (0 < n2)) [m.rt.org]; have l2 := attrIf_len 2 4 (decide (0 < n2)) m.rt.path; have l3 := attrIf_len 3 4 (decide (0 < n2)) [m.rt.next]; simp only [List.length_cons, List.length_nil] at l1 l2 l3; omega)).mono ?_
  rintro e y4 ⟨⟨x4, rfl⟩, ha4⟩
  have HA4 : Hid (AtB (b + 3) (b + 1) w2 y4 ([] ++ attrIf 1 1 (decide (0 < n2)) [m.rt.org] ++ attrIf 2 4 (decide (0 < n2)) m.rt.path ++ attrIf 3 4 (decide (0 < n2)) [m.rt.next] ++ attrIf 4 4 (m.rt.med != 0) [m.rt.med])) := ha4
  clear ha4 r0 r1 r2 r3 r4 r5 r6 r7 r8 r9
  obtain ⟨r0, r1, r2, r3, r4, r5, r6, r7, r8, r9⟩ := (HRW.out _ _ HA4.out).1
  rw [HQ1.out] at r2
  rw [HQ2.out] at r7
  rw [HQ3.out] at r8
  go_wp2_with fail
  refine (attr1_any HA4.out (by omega) hN 5 4 (by decide) (by decide) (m.rt.pref != 0) m.rt.pref ⟨HRR.out.pref.1, by have := HRR.out.pref.2; omega⟩ (by have := HQ1L.out; have := HQ2L.out; have := HQ3L.out; simp only [List.length_append, List.length_nil]; have l1 := attrIf_len 1 1 (decide (0 < n2)) [m.rt.org]; have l2 := attrIf_len 2 4 (decide (0 < n2)) m.rt.path; have l3 := attrIf_len 3 4 (decide (0 < n2)) [m.rt.next]; have l4 := attrIf_len 4 4 (m.rt.med != 0) [m.rt.med]; simp only [List.length_cons, List.length_nil] at l1 l2 l3 l4; omega)).mono ?_
  rintro e y5 ⟨⟨x5, rfl⟩, ha5⟩
  have HA5 : Hid (AtB (b + 3) (b + 1) w2 y5 ([] ++ attrIf 1 1 (decide (0 < n2)) [m.rt.org] ++ attrIf 2 4 (decide (0 < n2)) m.rt.path ++ attrIf 3 4 (decide (0 < n2)) [m.rt.next] ++ attrIf 4 4 (m.rt.med != 0) [m.rt.med] ++ attrIf 5 4 (m.rt.pref != 0) [m.rt.pref])) := ha5
  clear ha5 r0 r1 r2 r3 r4 r5 r6 r7 r8 r9
  obtain ⟨r0, r1, r2, r3, r4, r5, r6, r7, r8, r9⟩ := (HRW.out _ _ HA5.out).1
  rw [HQ1.out] at r2
  rw [HQ2.out] at r7
  rw [HQ3.out] at r8
  go_wp2_with fail
  refine (attrL_any HA5.out (by omega) hN 6 4 (by decide) (by decide) (decide (0 < q2)) s.m q2 s.mc m.rt.marks (HLP.out _ _ HA5.out).2.1 HQ2.out (by have := HQ2L.out; have := HQ2.out; omega) (fun x hx => by have := HRR.out.marks x hx; omega) (by have := HQ1L.out; have := HQ2L.out; have := HQ3L.out; simp only [List.length_append, List.length_nil]; have l1 := attrIf_len 1 1 (decide (0 < n2)) [m.rt.org]; have l2 := attrIf_len 2 4 (decide (0 < n2)) m.rt.path; have l3 := attrIf_len 3 4 (decide (0 < n2)) [m.rt.next]; have l4 := attrIf_len 4 4 (m.rt.med != 0) [m.rt.med]; have l5 := attrIf_len 5 4 (m.rt.pref != 0) [m.rt.pref]; simp only [List.length_cons, List.length_nil] at l1 l2 l3 l4 l5; omega)).mono ?_
  rintro e y6 ⟨⟨x6, rfl⟩, ha6⟩
  have HA6 : Hid (AtB (b + 3) (b + 1) w2 y6 ([] ++ attrIf 1 1 (decide (0 < n2)) [m.rt.org] ++ attrIf 2 4 (decide (0 < n2)) m.rt.path ++ attrIf 3 4 (decide (0 < n2)) [m.rt.next] ++ attrIf 4 4 (m.rt.med != 0) [m.rt.med] ++ attrIf 5 4 (m.rt.pref != 0) [m.rt.pref] ++ attrIf 6 4 (decide (0 < q2)) m.rt.marks)) := ha6
  clear ha6 r0 r1 r2 r3 r4 r5 r6 r7 r8 r9
  obtain ⟨r0, r1, r2, r3, r4, r5, r6, r7, r8, r9⟩ := (HRW.out _ _ HA6.out).1
  rw [HQ1.out] at r2
  rw [HQ2.out] at r7
  rw [HQ3.out] at r8
  go_wp2_with fail
  refine (attr1_any HA6.out (by omega) hN 7 4 (by decide) (by decide) (m.rt.auth != 0) m.rt.auth ⟨HRR.out.auth.1, by have := HRR.out.auth.2; omega⟩ (by have := HQ1L.out; have := HQ2L.out; have := HQ3L.out; simp only [List.length_append, List.length_nil]; have l1 := attrIf_len 1 1 (decide (0 < n2)) [m.rt.org]; have l2 := attrIf_len 2 4 (decide (0 < n2)) m.rt.path; have l3 := attrIf_len 3 4 (decide (0 < n2)) [m.rt.next]; have l4 := attrIf_len 4 4 (m.rt.med != 0) [m.rt.med]; have l5 := attrIf_len 5 4 (m.rt.pref != 0) [m.rt.pref]; have l6 := attrIf_len 6 4 (decide (0 < q2)) m.rt.marks; simp only [List.length_cons, List.length_nil] at l1 l2 l3 l4 l5 l6; omega)).mono ?_
  rintro e y7 ⟨⟨x7, rfl⟩, ha7⟩
  have HA7 : Hid (AtB (b + 3) (b + 1) w2 y7 ([] ++ attrIf 1 1 (decide (0 < n2)) [m.rt.org] ++ attrIf 2 4 (decide (0 < n2)) m.rt.path ++ attrIf 3 4 (decide (0 < n2)) [m.rt.next] ++ attrIf 4 4 (m.rt.med != 0) [m.rt.med] ++ attrIf 5 4 (m.rt.pref != 0) [m.rt.pref] ++ attrIf 6 4 (decide (0 < q2)) m.rt.marks ++ attrIf 7 4 (m.rt.auth != 0) [m.rt.auth])) := ha7
  clear ha7 r0 r1 r2 r3 r4 r5 r6 r7 r8 r9
  obtain ⟨r0, r1, r2, r3, r4, r5, r6, r7, r8, r9⟩ := (HRW.out _ _ HA7.out).1
  rw [HQ1.out] at r2
  rw [HQ2.out] at r7
  rw [HQ3.out] at r8
  go_wp2_with fail
  refine (attrL_any HA7.out (by omega) hN 8 4 (by decide) (by decide) (decide (0 < q3)) s.c q3 s.cc m.rt.clus (HLP.out _ _ HA7.out).2.2 HQ3.out (by have := HQ3L.out; have := HQ3.out; omega) (fun x hx => by have := HRR.out.clus x hx; omega) (by have := HQ1L.out; have := HQ2L.out; have := HQ3L.out; simp only [List.length_append, List.length_nil]; have l1 := attrIf_len 1 1 (decide (0 < n2)) [m.rt.org]; have l2 := attrIf_len 2 4 (decide (0 < n2)) m.rt.path; have l3 := attrIf_len 3 4 (decide (0 < n2)) [m.rt.next]; have l4 := attrIf_len 4 4 (m.rt.med != 0) [m.rt.med]; have l5 := attrIf_len 5 4 (m.rt.pref != 0) [m.rt.pref]; have l6 := attrIf_len 6 4 (decide (0 < q2)) m.rt.marks; have l7 := attrIf_len 7 4 (m.rt.auth != 0) [m.rt.auth]; simp only [List.length_cons, List.length_nil] at l1 l2 l3 l4 l5 l6 l7; omega)).mono ?_
  rintro e y8 ⟨⟨x8, rfl⟩, ha8⟩
  have HA8 : Hid (AtB (b + 3) (b + 1) w2 y8 ([] ++ attrIf 1 1 (decide (0 < n2)) [m.rt.org] ++ attrIf 2 4 (decide (0 < n2)) m.rt.path ++ attrIf 3 4 (decide (0 < n2)) [m.rt.next] ++ attrIf 4 4 (m.rt.med != 0) [m.rt.med] ++ attrIf 5 4 (m.rt.pref != 0) [m.rt.pref] ++ attrIf 6 4 (decide (0 < q2)) m.rt.marks ++ attrIf 7 4 (m.rt.auth != 0) [m.rt.auth] ++ attrIf 8 4 (decide (0 < q3)) m.rt.clus)) := ha8
  clear ha8 r0 r1 r2 r3 r4 r5 r6 r7 r8 r9
  obtain ⟨v, hcv, hov⟩ := HA8.out.row
  have HE : Hid (attrs m = [] ++ attrIf 1 1 (decide (0 < n2)) [m.rt.org] ++ attrIf 2 4 (decide (0 < n2)) m.rt.path ++ attrIf 3 4 (decide (0 < n2)) [m.rt.next] ++ attrIf 4 4 (m.rt.med != 0) [m.rt.med] ++ attrIf 5 4 (m.rt.pref != 0) [m.rt.pref] ++ attrIf 6 4 (decide (0 < q2)) m.rt.marks ++ attrIf 7 4 (m.rt.auth != 0) [m.rt.auth] ++ attrIf 8 4 (decide (0 < q3)) m.rt.clus) := by
    show _ = _
    unfold attrs
    rw [HN2.out, HQ2.out, HQ3.out]
    simp only [List.nil_append]
  have HO9 : Hid (OwnL E8 w.heap.size y8 v (attrs m)) := by rw [HE.out, HBZ.out]; exact hov.mono (by omega)
  have HB9 : Hid (Below w.heap.size w y8) := HBW.out _ _ HA8.out
  obtain ⟨va5, vc5, hv5, -⟩ := HO9.out.form
  obtain ⟨vl, hvl⟩ : ∃ q, (attrs m).length = q := ⟨_, rfl⟩
  rw [hvl] at hv5
  subst hv5
  clear hov hvl HA0 HA1 HA2 HA3 HA4 HA5 HA6 HA7 HE
  go_wp2_with fail
  go_ret
  exact ⟨_, rfl, HO9.out, HB9.out⟩
end Go.Proofs.Ytanboekdfdafmaa.Pv
