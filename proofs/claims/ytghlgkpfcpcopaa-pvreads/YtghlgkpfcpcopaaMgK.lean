/- The caller writes into what came out: pvSpoil. PvReads answers true. -/
import Derived.Test.YtghlgkpfcpcopaaMgJ
import Derived.Test.YtghlgkpfcpcopaaPwT
namespace Go.Proofs.Ytghlgkpfcpcopaa.Pv
open Go.ChangeShapes Go.WideShapes Go.ChangeAt Go.RowKit Go.Joins Go.Proofs.Ytghlgkpfcpcopaa.PM Go.Proofs.Ytghlgkpfcpcopaa.Ask Go.Proofs.Ytghlgkpfcpcopaa.Ge
set_option linter.unusedVariables false

/-- a list of so many, whatever it holds -/
def OwnN {α : Type} (E : El α) (N : Nat) (W : World) (a : Option Addr) (n c : Nat) : Prop := ∃ xs, xs.length = n ∧ OwnL E N W (.slice a n c) xs
theorem OwnN.keep {α : Type} {E : El α} {N n c b : Nat} {W W' : World} {a : Option Addr} (h : OwnN E N W a n c) (hk : Ko W b W') (hb : ¬ ob a = some b) : OwnN E N W' a n c := by
  obtain ⟨xs, hx, ho⟩ := h
  exact ⟨xs, hx, own_obk ho (fun g e _ _ => hk.block g (fun e2 => hb (by rw [← e2]; exact e)))⟩
theorem OwnN.bel {α : Type} {E : El α} {N n c : Nat} {W W' : World} {a : Option Addr} (h : OwnN E N W a n c) (hb : Below W.heap.size W W') : OwnN E N W' a n c := by
  obtain ⟨xs, hx, ho⟩ := h
  exact ⟨xs, hx, ho.bel hb⟩
/-- what the caller may turn, and what it has not -/
structure SpJ (w : World) (N b1 : Nat) (m : Ms) (s : Sl) (W : World) : Prop where
  bx : MB b1 m s W
  b1 : w.heap.size ≤ b1
  ol : OwnN E2 N W s.l (m.lost.length) s.lc
  oh : OwnN E2 N W s.h (m.hv.length) s.hc
  op : OwnN EI N W s.p (m.rt.path.length) s.pc
  om : OwnN EI N W s.m (m.rt.marks.length) s.mc
  oc : OwnN EI N W s.c (m.rt.clus.length) s.cc
  nn : ∀ g, Mown s g → g < w.heap.size
  d : Dis [ob s.l, ob s.h, ob s.p, ob s.m, ob s.c]
  kp : ∀ g, g < w.heap.size → ¬ Mown s g → W.heap[g]? = w.heap[g]?
  str : Below 0 w W
theorem dis_five {a b c d e : Option Nat} (h : Dis [a, b, c, d, e]) : ∀ g, (a = some g → ¬ b = some g ∧ ¬ c = some g ∧ ¬ d = some g ∧ ¬ e = some g) ∧ (b = some g → ¬ c = some g ∧ ¬ d = some g ∧ ¬ e = some g) ∧ (c = some g → ¬ d = some g ∧ ¬ e = some g) ∧ (d = some g → ¬ e = some g) := by
  unfold Dis at h
  simp only [List.pairwise_cons, List.mem_cons, List.not_mem_nil, or_false, forall_eq_or_imp, forall_eq, List.Pairwise.nil, and_true] at h
  obtain ⟨⟨h1, h2, h3, h4⟩, ⟨h5, h6, h7⟩, ⟨h8, h9⟩, h10, -⟩ := h
  exact fun g => ⟨fun e => ⟨h1 g e, h2 g e, h3 g e, h4 g e⟩, fun e => ⟨h5 g e, h6 g e, h7 g e⟩, fun e => ⟨h8 g e, h9 g e⟩, fun e => h10 g e⟩
theorem SpJ.wl {w W W' : World} {N b1 g : Nat} {m : Ms} {s : Sl} (h : SpJ w N b1 m s W) (e : ob s.l = some g) (hk : Ko W g W') (ho : OwnN E2 N W' s.l (m.lost.length) s.lc) : SpJ w N b1 m s W' := by
  have hg : Mown s g := .inl e
  have hl := h.nn g hg
  have hb := h.b1
  exact ⟨h.bx.blk (hk.block _ (by omega)), h.b1, ho, h.oh.keep hk (fun e2 => by have := dis_five h.d g; simp_all), h.op.keep hk (fun e2 => by have := dis_five h.d g; simp_all), h.om.keep hk (fun e2 => by have := dis_five h.d g; simp_all), h.oc.keep hk (fun e2 => by have := dis_five h.d g; simp_all), h.nn, h.d, fun g2 h1 h2 => (hk.block g2 (fun e2 => h2 (by rw [e2]; exact hg))).trans (h.kp g2 h1 h2), h.str.trans hk.str⟩
theorem SpJ.wh {w W W' : World} {N b1 g : Nat} {m : Ms} {s : Sl} (h : SpJ w N b1 m s W) (e : ob s.h = some g) (hk : Ko W g W') (ho : OwnN E2 N W' s.h (m.hv.length) s.hc) : SpJ w N b1 m s W' := by
  have hg : Mown s g := .inr (.inl e)
  have hl := h.nn g hg
  have hb := h.b1
  exact ⟨h.bx.blk (hk.block _ (by omega)), h.b1, h.ol.keep hk (fun e2 => by have := dis_five h.d g; simp_all), ho, h.op.keep hk (fun e2 => by have := dis_five h.d g; simp_all), h.om.keep hk (fun e2 => by have := dis_five h.d g; simp_all), h.oc.keep hk (fun e2 => by have := dis_five h.d g; simp_all), h.nn, h.d, fun g2 h1 h2 => (hk.block g2 (fun e2 => h2 (by rw [e2]; exact hg))).trans (h.kp g2 h1 h2), h.str.trans hk.str⟩
theorem SpJ.wp {w W W' : World} {N b1 g : Nat} {m : Ms} {s : Sl} (h : SpJ w N b1 m s W) (e : ob s.p = some g) (hk : Ko W g W') (ho : OwnN EI N W' s.p (m.rt.path.length) s.pc) : SpJ w N b1 m s W' := by
  have hg : Mown s g := .inr (.inr (.inl e))
  have hl := h.nn g hg
  have hb := h.b1
  exact ⟨h.bx.blk (hk.block _ (by omega)), h.b1, h.ol.keep hk (fun e2 => by have := dis_five h.d g; simp_all), h.oh.keep hk (fun e2 => by have := dis_five h.d g; simp_all), ho, h.om.keep hk (fun e2 => by have := dis_five h.d g; simp_all), h.oc.keep hk (fun e2 => by have := dis_five h.d g; simp_all), h.nn, h.d, fun g2 h1 h2 => (hk.block g2 (fun e2 => h2 (by rw [e2]; exact hg))).trans (h.kp g2 h1 h2), h.str.trans hk.str⟩
theorem SpJ.wm {w W W' : World} {N b1 g : Nat} {m : Ms} {s : Sl} (h : SpJ w N b1 m s W) (e : ob s.m = some g) (hk : Ko W g W') (ho : OwnN EI N W' s.m (m.rt.marks.length) s.mc) : SpJ w N b1 m s W' := by
  have hg : Mown s g := .inr (.inr (.inr (.inl e)))
  have hl := h.nn g hg
  have hb := h.b1
  exact ⟨h.bx.blk (hk.block _ (by omega)), h.b1, h.ol.keep hk (fun e2 => by have := dis_five h.d g; simp_all), h.oh.keep hk (fun e2 => by have := dis_five h.d g; simp_all), h.op.keep hk (fun e2 => by have := dis_five h.d g; simp_all), ho, h.oc.keep hk (fun e2 => by have := dis_five h.d g; simp_all), h.nn, h.d, fun g2 h1 h2 => (hk.block g2 (fun e2 => h2 (by rw [e2]; exact hg))).trans (h.kp g2 h1 h2), h.str.trans hk.str⟩
theorem SpJ.wc {w W W' : World} {N b1 g : Nat} {m : Ms} {s : Sl} (h : SpJ w N b1 m s W) (e : ob s.c = some g) (hk : Ko W g W') (ho : OwnN EI N W' s.c (m.rt.clus.length) s.cc) : SpJ w N b1 m s W' := by
  have hg : Mown s g := .inr (.inr (.inr (.inr e)))
  have hl := h.nn g hg
  have hb := h.b1
  exact ⟨h.bx.blk (hk.block _ (by omega)), h.b1, h.ol.keep hk (fun e2 => by have := dis_five h.d g; simp_all), h.oh.keep hk (fun e2 => by have := dis_five h.d g; simp_all), h.op.keep hk (fun e2 => by have := dis_five h.d g; simp_all), h.om.keep hk (fun e2 => by have := dis_five h.d g; simp_all), ho, h.nn, h.d, fun g2 h1 h2 => (hk.block g2 (fun e2 => h2 (by rw [e2]; exact hg))).trans (h.kp g2 h1 h2), h.str.trans hk.str⟩
theorem SpJ.bel {w W W' : World} {N b1 : Nat} {m : Ms} {s : Sl} (h : SpJ w N b1 m s W) (hb : Below W.heap.size W W') : SpJ w N b1 m s W' :=
  ⟨h.bx.blk (hb.block _ h.bx.lt), h.b1, h.ol.bel hb, h.oh.bel hb, h.op.bel hb, h.om.bel hb, h.oc.bel hb, h.nn, h.d, fun g h1 h2 => (hb.block g (by have := h.str.size; omega)).trans (h.kp g h1 h2), h.str.trans (hb.mono (Nat.zero_le _))⟩
theorem sp_begin {w W : World} {N : Nat} {m : Ms} {s : Sl} (h : MO N w m s) (hb : Below w.heap.size w W) (hm : MB w.heap.size m s W) : SpJ w N w.heap.size m s W :=
  ⟨hm, Nat.le_refl _, ⟨_, rfl, h.l.bel hb⟩, ⟨_, rfl, h.h.bel hb⟩, ⟨_, rfl, h.r.p.bel hb⟩, ⟨_, rfl, h.r.m.bel hb⟩, ⟨_, rfl, h.r.c.bel hb⟩, fun g hg => (h.rng g hg).2, h.d, fun g hg _ => hb.block g hg, hb.mono (Nat.zero_le _)⟩
/-- one item of a list is turned: what the walk wants, and what it leaves -/
theorem own_two {N n c i : Nat} {W : World} {a : Option Addr} (h : OwnN E2 N W a n c) (hi : i < n) : ∃ g, a = some ⟨g, 0, none⟩ ∧ ob a = some g ∧ (∃ v, W.cell? ⟨g, i * 2, none⟩ = some v) ∧ (∃ v, W.cell? ⟨g, i * 2 + 1, none⟩ = some v) ∧ W.frozen? ⟨g, i * 2, none⟩ = false ∧ W.frozen? ⟨g, i * 2 + 1, none⟩ = false ∧ OwnN E2 N ((W.setCell ⟨g, i * 2, none⟩ (.int .u32 0)).setCell ⟨g, i * 2 + 1, none⟩ (.int .i64 77)) a n c := by
  obtain ⟨xs, hx, ho⟩ := h
  subst hx
  obtain ⟨b, o, rfl, -, -⟩ := lst2 ho.lst.1 i hi
  obtain ⟨a', c', e, -, -, h4⟩ := ho.form
  injection e with e1
  obtain ⟨rfl, -, -⟩ := h4 b o e1.symm
  obtain ⟨h1, h2, h3, -⟩ := ho.at0
  have c0 := h1 i hi 0 (by decide)
  have c1 := h1 i hi 1 (by decide)
  refine ⟨b, rfl, rfl, ⟨.int .u32 xs[i].1, by simpa [E2] using c0⟩, ⟨.int .i64 xs[i].2, by simpa [E2] using c1⟩, h2 _, h2 _, ?_⟩
  have k1 := ho.setc (i := i) (j := 0) hi (by decide) (.int .u32 0) (0, xs[i].2) rfl
  have k2 := k1.setc (i := i) (j := 1) (by rw [List.length_set]; exact hi) (by decide) (.int .i64 77) (0, 77) (by simp [E2])
  exact ⟨(xs.set i (0, xs[i].2)).set i (0, 77), by rw [List.length_set, List.length_set], k2⟩
theorem own_int {N n c i : Nat} {W : World} {a : Option Addr} (h : OwnN EI N W a n c) (hi : i < n) : ∃ g, a = some ⟨g, 0, none⟩ ∧ ob a = some g ∧ (∃ v, W.cell? ⟨g, i, none⟩ = some v) ∧ W.frozen? ⟨g, i, none⟩ = false ∧ OwnN EI N (W.setCell ⟨g, i, none⟩ (.int .i64 (-9))) a n c := by
  obtain ⟨xs, hx, ho⟩ := h
  subst hx
  obtain ⟨b, o, rfl, -, -⟩ := lstI ho.lst.1 i hi
  obtain ⟨a', c', e, -, -, h4⟩ := ho.form
  injection e with e1
  obtain ⟨rfl, -, -⟩ := h4 b o e1.symm
  obtain ⟨h1, h2, h3, -⟩ := ho.at0
  have c0 := h1 i hi 0 (by decide)
  refine ⟨b, rfl, rfl, ⟨.int .i64 xs[i], by simpa [EI] using c0⟩, h2 _, ?_⟩
  have k1 := ho.setc (i := i) (j := 0) hi (by decide) (.int .i64 (-9)) (-9) rfl
  have e1 : i * EI.k + 0 = i := by show i * 1 + 0 = i; omega
  rw [e1] at k1
  exact ⟨xs.set i (-9), by rw [List.length_set], k1⟩
/-- one of the lists of numbers -/
structure Spl (w : World) (N b1 : Nat) (m : Ms) (s : Sl) (a : Option Addr) (n c : Nat) : Prop where
  own : ∀ W, SpJ w N b1 m s W → OwnN EI N W a n c
  wr : ∀ W W' g, SpJ w N b1 m s W → ob a = some g → Ko W g W' → OwnN EI N W' a n c → SpJ w N b1 m s W'
  mo : ∀ g, ob a = some g → Mown s g
theorem spl_p (w : World) (N b1 : Nat) (m : Ms) (s : Sl) : Spl w N b1 m s s.p (m.rt.path.length) s.pc := ⟨fun _ h => h.op, fun _ _ _ h e k o => h.wp e k o, fun _ e => .inr (.inr (.inl e))⟩
theorem spl_m (w : World) (N b1 : Nat) (m : Ms) (s : Sl) : Spl w N b1 m s s.m (m.rt.marks.length) s.mc := ⟨fun _ h => h.om, fun _ _ _ h e k o => h.wm e k o, fun _ e => .inr (.inr (.inr (.inl e)))⟩
theorem spl_c (w : World) (N b1 : Nat) (m : Ms) (s : Sl) : Spl w N b1 m s s.c (m.rt.clus.length) s.cc := ⟨fun _ h => h.oc, fun _ _ _ h e k o => h.wc e k o, fun _ e => .inr (.inr (.inr (.inr e)))⟩
set_option maxRecDepth 100000 in
set_option maxHeartbeats 16000000 in
theorem spoil_any (N : Nat) (m : Ms) (s : Sl) (w : World) (h : MO N w m s) :
    Calls Try.prog 11 #[msV m s] w fun e w' => (∃ u, e = .returned u) ∧ Below 0 w w' ∧ ∀ g, g < w.heap.size → ¬ Mown s g → w'.heap[g]? = w.heap[g]? := by
  have HO : Hid (MO N w m s) := h
  clear h
  go_enter Try.func11, Try.ntmps11
  go_wp2_with (refine list_sbox MsK rfl _ rfl (cs := msL m s) rfl ?_)
  intro W1 h1 hbw hz1
  have HJ0 : Hid (SpJ w N w.heap.size m s W1) := sp_begin HO.out hbw.out h1.out
  clear h1 hbw hz1 HO
  obtain ⟨b1, hb1⟩ : ∃ k, w.heap.size = k := ⟨_, rfl⟩
  have HJ : Hid (SpJ w N b1 m s W1) := by rw [← hb1]; exact HJ0.out
  rw [hb1]
  clear hb1 HJ0
  obtain ⟨nl, hnl⟩ : ∃ k, m.lost.length = k := ⟨_, rfl⟩
  obtain ⟨nh, hnh⟩ : ∃ k, m.hv.length = k := ⟨_, rfl⟩
  obtain ⟨np, hnp⟩ : ∃ k, m.rt.path.length = k := ⟨_, rfl⟩
  obtain ⟨nm, hnm⟩ : ∃ k, m.rt.marks.length = k := ⟨_, rfl⟩
  obtain ⟨nc, hnc⟩ : ∃ k, m.rt.clus.length = k := ⟨_, rfl⟩
  have hbl : nl ≤ 9223372036854775807 := by rw [← hnl]; obtain ⟨xs, hx, ho⟩ := HJ.out.ol; have := ho.lst.1.small; omega
  have hbh : nh ≤ 9223372036854775807 := by rw [← hnh]; obtain ⟨xs, hx, ho⟩ := HJ.out.oh; have := ho.lst.1.small; omega
  have hbp : np ≤ 9223372036854775807 := by rw [← hnp]; obtain ⟨xs, hx, ho⟩ := HJ.out.op; have := ho.lst.1.small; omega
  have hbm : nm ≤ 9223372036854775807 := by rw [← hnm]; obtain ⟨xs, hx, ho⟩ := HJ.out.om; have := ho.lst.1.small; omega
  have hbc : nc ≤ 9223372036854775807 := by rw [← hnc]; obtain ⟨xs, hx, ho⟩ := HJ.out.oc; have := ho.lst.1.small; omega
  have HNL : Hid (m.lost.length = nl) := hnl
  have HNH : Hid (m.hv.length = nh) := hnh
  have HNP : Hid (m.rt.path.length = np) := hnp
  have HNM : Hid (m.rt.marks.length = nm) := hnm
  have HNC : Hid (m.rt.clus.length = nc) := hnc
  obtain ⟨al, hal⟩ : ∃ k, s.l = k := ⟨_, rfl⟩
  obtain ⟨ah, hah⟩ : ∃ k, s.h = k := ⟨_, rfl⟩
  obtain ⟨ap, hap⟩ : ∃ k, s.p = k := ⟨_, rfl⟩
  obtain ⟨am, ham⟩ : ∃ k, s.m = k := ⟨_, rfl⟩
  obtain ⟨ac, hac⟩ : ∃ k, s.c = k := ⟨_, rfl⟩
  have HAL : Hid (s.l = al) := hal
  have HAH : Hid (s.h = ah) := hah
  have HAP : Hid (s.p = ap) := hap
  have HAM : Hid (s.m = am) := ham
  have HAC : Hid (s.c = ac) := hac
  have HC : Hid (∀ W, SpJ w N b1 m s W → W.cell? ⟨b1, 5, none⟩ = some (.slice al nl s.lc) ∧ W.cell? ⟨b1, 6, none⟩ = some (.slice ah nh s.hc) ∧ W.cell? ⟨b1, 9, none⟩ = some (.slice ap np s.pc) ∧ W.cell? ⟨b1, 14, none⟩ = some (.slice am nm s.mc) ∧ W.cell? ⟨b1, 15, none⟩ = some (.slice ac nc s.cc)) := by
    intro W hW
    rw [← hnl, ← hnh, ← hnp, ← hnm, ← hnc, ← hal, ← hah, ← hap, ← ham, ← hac]
    exact ⟨hW.bx.cell 5, hW.bx.cell 6, hW.bx.cell 9, hW.bx.cell 14, hW.bx.cell 15⟩
  clear hnl hnh hnp hnm hnc hal hah hap ham hac
  obtain ⟨e5, e6, e9, e14, e15⟩ := HC.out _ HJ.out
  go_wp2_with fail
  go_loopw [10] (fun iv wr => ∃ i : Nat, i ≤ nl ∧ iv = .int .i64 (i : Int) ∧ SpJ w N b1 m s wr) (fun i _ => nl - (intOf i).toNat)
  case atStart => exact ⟨0, by omega, rfl, HJ.out⟩
  case round =>
    obtain ⟨i, hi, rfl, hj⟩ := hrel
    have HR : Hid (SpJ w N b1 m s wr) := hj
    clear hj
    by_cases hlt : i < nl
    · as_aux_lemma =>
      have hlti : (i : Int) < (nl : Int) := by omega
      obtain ⟨q5, q6, q9, q14, q15⟩ := HC.out _ HR.out
      obtain ⟨g, eg, eo, ⟨v0, c0⟩, ⟨v1, c1⟩, f0, f1, ho⟩ := own_two HR.out.ol (i := i) (by rw [HNL.out]; exact hlt)
      have HW : Hid (SpJ w N b1 m s ((wr.setCell ⟨g, i * 2, none⟩ (.int .u32 0)).setCell ⟨g, i * 2 + 1, none⟩ (.int .i64 77))) := HR.out.wl eo ((Ko.set _ _ _ _).trans (Ko.set _ _ _ _)) ho
      rw [HAL.out] at eg
      subst eg
      clear ho eo
      go_wp2_with fail
      exact ⟨⟨i + 1, by omega, by simp, HW.out⟩, by simp [intOf]; omega⟩
    · as_aux_lemma =>
      obtain rfl : nl = i := by omega
      have hlti : ¬ (nl : Int) < (nl : Int) := by omega
      have HJ2 : Hid (SpJ w N b1 m s wr) := HR.out
      obtain ⟨e5, e6, e9, e14, e15⟩ := HC.out _ HJ2.out
      obtain ⟨WHJ2, hWHJ2⟩ : ∃ x, wr = x := ⟨_, rfl⟩
      rw [hWHJ2] at HJ2 e5 e6 e9 e14 e15 ⊢
      clear HR HJ hWHJ2 hlt hi
      go_wp2_with fail
      go_loopw [22] (fun iv wr => ∃ i : Nat, i ≤ nh ∧ iv = .int .i64 (i : Int) ∧ SpJ w N b1 m s wr) (fun i _ => nh - (intOf i).toNat)
      case atStart => exact ⟨0, by omega, rfl, HJ2.out⟩
      case round =>
        obtain ⟨i, hi, rfl, hj⟩ := hrel
        have HR : Hid (SpJ w N b1 m s wr) := hj
        clear hj
        by_cases hlt : i < nh
        · as_aux_lemma =>
          have hlti : (i : Int) < (nh : Int) := by omega
          obtain ⟨q5, q6, q9, q14, q15⟩ := HC.out _ HR.out
          obtain ⟨g, eg, eo, ⟨v0, c0⟩, ⟨v1, c1⟩, f0, f1, ho⟩ := own_two HR.out.oh (i := i) (by rw [HNH.out]; exact hlt)
          have HW : Hid (SpJ w N b1 m s ((wr.setCell ⟨g, i * 2, none⟩ (.int .u32 0)).setCell ⟨g, i * 2 + 1, none⟩ (.int .i64 77))) := HR.out.wh eo ((Ko.set _ _ _ _).trans (Ko.set _ _ _ _)) ho
          rw [HAH.out] at eg
          subst eg
          clear ho eo
          go_wp2_with fail
          exact ⟨⟨i + 1, by omega, by simp, HW.out⟩, by simp [intOf]; omega⟩
        · as_aux_lemma =>
          obtain rfl : nh = i := by omega
          have hlti : ¬ (nh : Int) < (nh : Int) := by omega
          have HJ3 : Hid (SpJ w N b1 m s wr) := HR.out
          obtain ⟨e5, e6, e9, e14, e15⟩ := HC.out _ HJ3.out
          obtain ⟨WHJ3, hWHJ3⟩ : ∃ x, wr = x := ⟨_, rfl⟩
          rw [hWHJ3] at HJ3 e5 e6 e9 e14 e15 ⊢
          clear HR HJ2 hWHJ3 hlt hi
          obtain ⟨W4, hW4⟩ : ∃ x, WHJ3.alloc (Obj.cells #[.slice ap np s.pc, .slice am nm s.mc, .slice ac nc s.cc] 27) = x := ⟨_, rfl⟩
          obtain ⟨bb, hbb⟩ : ∃ x, WHJ3.heap.size = x := ⟨_, rfl⟩
          have hbel : Below WHJ3.heap.size WHJ3 W4 := by rw [← hW4]; exact (Below.refl _ _).alloc (Nat.le_refl _) _
          have HJ4 : Hid (SpJ w N b1 m s W4) := HJ3.out.bel hbel
          have HBB : Hid (w.heap.size ≤ bb) := by show _ ≤ _; rw [← hbb]; exact HJ3.out.str.size
          have HB4 : Hid (W4.heap[bb]? = some (Obj.cells #[.slice ap np s.pc, .slice am nm s.mc, .slice ac nc s.cc] 27)) := by show _ = _; rw [← hW4, ← hbb]; exact World.alloc_heap_new WHJ3 _
          clear hbel
          go_upto_region 12 with fail
          clear hW4 hbb HJ3
          go_loopw [42] (fun jv wr => ∃ j : Nat, j ≤ 3 ∧ jv = .int .i64 (j : Int) ∧ SpJ w N b1 m s wr ∧ wr.heap[bb]? = some (Obj.cells #[.slice ap np s.pc, .slice am nm s.mc, .slice ac nc s.cc] 27)) (fun j _ => 3 - (intOf j).toNat)
          case atStart => exact ⟨0, by omega, rfl, HJ4.out, HB4.out⟩
          case round =>
            obtain ⟨j, hj, rfl, hs, hb⟩ := hrel
            have HR : Hid (SpJ w N b1 m s wr) := hs
            have HRB : Hid (wr.heap[bb]? = some (Obj.cells #[.slice ap np s.pc, .slice am nm s.mc, .slice ac nc s.cc] 27)) := hb
            clear hs hb
            by_cases hlt : j < 3
            · have hlti : (j : Int) < 3 := by omega
              obtain ⟨aj, nj, cj, dj, hnj, hsel⟩ : ∃ aj nj cj, wr.cell? ⟨bb, j, none⟩ = some (.slice aj nj cj) ∧ nj ≤ 9223372036854775807 ∧ Spl w N b1 m s aj nj cj := by
                have h5 : j = 0 ∨ j = 1 ∨ j = 2 := by omega
                rcases h5 with rfl | rfl | rfl
                · exact ⟨ap, np, s.pc, by unfold World.cell?; rw [HRB.out]; rfl, hbp, by rw [← HAP.out, ← HNP.out]; exact spl_p w N b1 m s⟩
                · exact ⟨am, nm, s.mc, by unfold World.cell?; rw [HRB.out]; rfl, hbm, by rw [← HAM.out, ← HNM.out]; exact spl_m w N b1 m s⟩
                · exact ⟨ac, nc, s.cc, by unfold World.cell?; rw [HRB.out]; rfl, hbc, by rw [← HAC.out, ← HNC.out]; exact spl_c w N b1 m s⟩
              have HSEL : Hid (Spl w N b1 m s aj nj cj) := hsel
              clear hsel
              go_wp2_with fail
              obtain ⟨w5, hw5⟩ : ∃ x, wr = x := ⟨_, rfl⟩
              rw [hw5] at HR HRB dj ⊢
              clear hw5
              go_loopw [48] (fun iv wr => ∃ i : Nat, i ≤ nj ∧ iv = .int .i64 (i : Int) ∧ SpJ w N b1 m s wr ∧ wr.heap[bb]? = some (Obj.cells #[.slice ap np s.pc, .slice am nm s.mc, .slice ac nc s.cc] 27)) (fun i _ => nj - (intOf i).toNat)
              case atStart => exact ⟨0, by omega, rfl, HR.out, HRB.out⟩
              case round =>
                obtain ⟨i, hi, rfl, hs, hb⟩ := hrel
                have HR2 : Hid (SpJ w N b1 m s wr) := hs
                have HRB2 : Hid (wr.heap[bb]? = some (Obj.cells #[.slice ap np s.pc, .slice am nm s.mc, .slice ac nc s.cc] 27)) := hb
                clear hs hb
                by_cases hlt2 : i < nj
                · have hlti2 : (i : Int) < (nj : Int) := by omega
                  obtain ⟨g, eg, eo, ⟨v0, c0⟩, f0, ho⟩ := own_int (HSEL.out.own _ HR2.out) (i := i) hlt2
                  have HW : Hid (SpJ w N b1 m s (wr.setCell ⟨g, i, none⟩ (.int .i64 (-9)))) := HSEL.out.wr _ _ g HR2.out eo (Ko.set _ _ _ _) ho
                  have HWB : Hid ((wr.setCell ⟨g, i, none⟩ (.int .i64 (-9))).heap[bb]? = some (Obj.cells #[.slice ap np s.pc, .slice am nm s.mc, .slice ac nc s.cc] 27)) := ((Ko.set wr g i (.int .i64 (-9))).block bb (by have := HR2.out.nn g (HSEL.out.mo g eo); have := HBB.out; omega)).trans HRB2.out
                  subst eg
                  clear ho eo
                  go_wp2_with fail
                  exact ⟨⟨i + 1, by omega, by simp, HW.out, HWB.out⟩, by simp [intOf]; omega⟩
                · obtain rfl : nj = i := by omega
                  have hlti2 : ¬ (nj : Int) < (nj : Int) := by omega
                  go_wp2_with fail
                  exact ⟨⟨j + 1, by omega, by simp, HR2.out, HRB2.out⟩, by simp [intOf]; omega⟩
            · obtain rfl : j = 3 := by omega
              go_wp2_with fail
              refine ⟨rfl, .tuple #[], ?_, ⟨_, rfl⟩, HR.out.str, HR.out.kp⟩
              simp [results, Try.results11, go_sem]
end Go.Proofs.Ytghlgkpfcpcopaa.Pv
namespace Go.Proofs.Ytghlgkpfcpcopaa.Pv
open Go.ChangeShapes Go.WideShapes Go.ChangeAt Go.RowKit Go.Joins Go.Proofs.Ytghlgkpfcpcopaa.PM Go.Proofs.Ytghlgkpfcpcopaa.Ask Go.Proofs.Ytghlgkpfcpcopaa.Ge
set_option linter.unusedVariables false

/-- a struct is loaded, where the guard lets it -/
theorem list_sloadg {ops : Array Oper} {rest : List Oper} {o : Oper} {ac : Act} {Q : Exit → Act → World → Prop} {W : World} (T : Sk) (hw : Region.wanted o (yielded ops ac.tmps) = true) (x : Operand) (ho : o.op = .load T.t x) {b : Nat} {cs : List Value} (hx : ac.eval x = .pointer (some ⟨b, 0, none⟩)) (h : SB T b cs W) (hl : cs.length = T.k)
    (k : wpList Try.prog ops Q rest (ac.put o.dst (.agg cs.toArray)) W) : wpList Try.prog ops Q (o :: rest) ac W := by
  unfold wpList
  rw [if_pos hw]
  left
  unfold Oper.wp
  rw [sload_run T x ho hx h hl]
  exact k
set_option maxRecDepth 100000 in
set_option maxHeartbeats 16000000 in
theorem reads_any (va : Option Addr) (n cap : Nat) (xs : List Nat) (hn : xs.length = n) (hcap : n ≤ cap) (w : World) (hl : Lst E8 w va xs) (hu : ∀ d ∈ xs, d < 256) (hnil : va = none → n = 0 ∧ cap = 0) :
    Calls Try.prog 3 #[.slice va n cap] w fun e w' => e = .returned (.bool true) ∧ Below w.heap.size w w' := by
  have HL : Hid (Lst E8 w va xs) := hl
  have HU : Hid (∀ d ∈ xs, d < 256) := hu
  have HN : Hid (xs.length = n) := hn
  have HNI : Hid (va = none → n = 0 ∧ cap = 0) := hnil
  have hsm := hl.small
  rw [hn] at hsm
  clear hl hu hn hnil
  obtain ⟨m, er, hd⟩ : ∃ m er, dec xs = (m, er) := ⟨_, _, rfl⟩
  have HD : Hid (dec xs = (m, er)) := hd
  have HDD : Hid (ddec xs = (m, er)) := by show _ = _; rw [ddec_eq HU.out]; exact hd
  clear hd
  go_enter Try.func3, Try.ntmps3
  by_cases hbig : 20000 < n
  · have hbi : (20000 : Int) < (n : Int) := by omega
    go_wp2_with fail
    go_ret
    exact ⟨rfl, Below.refl _ _⟩
  · have hbi : ¬ (20000 : Int) < (n : Int) := by omega
    obtain ⟨ho1, hb1⟩ := own_made0 E8 (W := w) rfl
    have HO1 : Hid (OwnL E8 w.heap.size (w.alloc (Obj.cells #[] 5)) (.slice (some ⟨w.heap.size, 0, none⟩) 0 0) []) := ho1
    have HB1 : Hid (Below w.heap.size w (w.alloc (Obj.cells #[] 5))) := hb1
    have HN1 : Hid (w.heap.size ≤ (w.alloc (Obj.cells #[] 5)).heap.size) := hb1.size
    have HL1 : Hid (([] : List Nat).length + n ≤ 1099511627775) := by show _ ≤ _; simp; omega
    have HT1 : Hid (Lst E8 (w.alloc (Obj.cells #[] 5)) va xs) := HL.out.bel hb1
    clear ho1 hb1
    go_wp2_with (at_builtin; refine list_appL E8 rfl _ _ 22 rfl rfl w.heap.size (.slice (some ⟨w.heap.size, 0, none⟩) 0 0) [] xs va n cap _ HL1.out rfl HO1.out rfl HT1.out HNI.out HN.out HN1.out ?_)
    intro v3 w3 ho3 hg3 ha3
    have HO3 : Hid (OwnL E8 w.heap.size w3 v3 xs) := ho3.out
    have HB3 : Hid (Below w.heap.size w w3) := HB1.out.grown hg3.out HN1.out (fun g e => (HO1.out.row.lt g e).1)
    obtain ⟨oa, oc, hv3, hoc, -, hob⟩ := HO3.out.form
    rw [HN.out] at hv3 hoc
    subst hv3
    have HOB : Hid (∀ b o, oa = some ⟨b, o, none⟩ → o = 0 ∧ w.heap.size ≤ b ∧ b < w3.heap.size) := hob
    clear ho3 hg3 ha3 hob HO1 HB1 HN1 HL1 HT1
    go_wp2_with fail
    refine (decode_any oa n oc xs HN.out hoc w3 HO3.out.lst.1 HU.out).mono ?_
    rw [HD.out]
    rintro e w4 ⟨s4, rfl, hmo4, hb4⟩
    dsimp only at hmo4 ⊢
    have HMO4 : Hid (MO w3.heap.size w4 m s4) := hmo4
    have HB4 : Hid (Below w3.heap.size w3 w4) := hb4
    clear hmo4 hb4
    go_wp2_with (refine list_sstore MsK rfl _ _ rfl (b := w4.heap.size) (cs := msL ms0 sZ) (cs' := msL m s4) rfl rfl (mb_zero rfl rfl).1 rfl rfl rfl ?_)
    intro w5 h5 hk5
    obtain ⟨hz5, hb5⟩ := mb_zero (w := w4) rfl rfl
    have HB5 : Hid (Below w4.heap.size w4 w5) := hb5.trans (hk5.out.below (Nat.le_refl _))
    obtain ⟨p4, hp4⟩ : ∃ k, w4.heap.size = k := ⟨_, rfl⟩
    have HP4 : Hid (w4.heap.size = p4) := hp4
    have H5 : Hid (SB MsK p4 (msL m s4) w5) := by rw [← hp4]; exact h5.out
    rw [hp4]
    have HB05 : Hid (Below w.heap.size w w5) := (HB3.out.trans (HB4.out.mono HB3.out.size)).trans (HB5.out.mono (Nat.le_trans HB3.out.size HB4.out.size))
    clear hz5 hb5 hk5 h5 hp4
    go_wp2_with fail
    refine (ddecode_any va n cap xs w5 (HL.out.bel HB05.out) HN.out hcap HU.out).mono ?_
    rw [HDD.out]
    rintro e w6 ⟨s6, rfl, hmo6, hb6⟩
    dsimp only at hmo6 ⊢
    have HMO6 : Hid (MO w5.heap.size w6 m s6) := hmo6
    have HB6 : Hid (Below w5.heap.size w5 w6) := hb6
    clear hmo6 hb6
    go_wp2_with (refine list_sstore MsK rfl _ _ rfl (b := w6.heap.size) (cs := msL ms0 sZ) (cs' := msL m s6) rfl rfl (mb_zero rfl rfl).1 rfl rfl rfl ?_)
    intro w7 h7 hk7
    obtain ⟨hz7, hb7⟩ := mb_zero (w := w6) rfl rfl
    have HB7 : Hid (Below w6.heap.size w6 w7) := hb7.trans (hk7.out.below (Nat.le_refl _))
    obtain ⟨p6, hp6⟩ : ∃ k, w6.heap.size = k := ⟨_, rfl⟩
    have HP6 : Hid (w6.heap.size = p6) := hp6
    have H7 : Hid (SB MsK p6 (msL m s6) w7) := by rw [← hp6]; exact h7.out
    rw [hp6]
    clear hz7 hb7 hk7 h7 hp6
    have HB47 : Hid (Below w4.heap.size w4 w7) := HB5.out.trans ((HB6.out.mono HB5.out.size).trans (HB7.out.mono (Nat.le_trans HB5.out.size HB6.out.size)))
    have HB57 : Hid (Below w5.heap.size w5 w7) := HB6.out.trans (HB7.out.mono HB6.out.size)
    have HB37 : Hid (Below w3.heap.size w3 w7) := HB4.out.trans (HB47.out.mono HB4.out.size)
    have HB07 : Hid (Below w.heap.size w w7) := HB3.out.trans (HB37.out.mono HB3.out.size)
    have H57 : Hid (SB MsK p4 (msL m s4) w7) := SB.blk H5.out (HB57.out.block _ (SB.lt H5.out))
    have HMO47 : Hid (MO w3.heap.size w7 m s4) := HMO4.out.blk (fun g _ _ hl => HB47.out.block g hl)
    have HMO67 : Hid (MO w5.heap.size w7 m s6) := HMO6.out.blk (fun g _ _ hl => HB7.out.block g hl)
    have HSM := msame_any m s4 s6 w7 HMO47.out.ok HMO67.out.ok
    have hern : (er != er) = false := by simp
    go_wp2_with (first | (refine list_sloadg MsK rfl _ rfl (b := p4) (cs := msL m s4) rfl H57.out rfl ?_) | (refine list_sloadg MsK rfl _ rfl (b := p6) (cs := msL m s6) rfl H7.out rfl ?_))
    refine HSM.mono ?_
    rintro e w8 ⟨rfl, hb8⟩
    have HB78 : Hid (Below w7.heap.size w7 w8) := hb8
    have HB38 : Hid (Below w3.heap.size w3 w8) := HB37.out.trans (hb8.mono HB37.out.size)
    have HB08 : Hid (Below w.heap.size w w8) := HB07.out.trans (hb8.mono HB07.out.size)
    have HBS := bsame_any oa oc va cap xs n HN.out w8 (HO3.out.bel HB38.out).lst.1 (HL.out.bel HB08.out)
    clear hb8 HSM
    go_wp2_with fail
    refine HBS.mono ?_
    rintro e w' ⟨rfl, hw'⟩
    rw [hw']
    clear hw' w' HBS
    have H58 : Hid (SB MsK p4 (msL m s4) w8) := SB.blk H57.out (HB78.out.block _ (SB.lt H57.out))
    have H78 : Hid (SB MsK p6 (msL m s6) w8) := SB.blk H7.out (HB78.out.block _ (SB.lt H7.out))
    have HMO48 : Hid (MO w3.heap.size w8 m s4) := HMO47.out.blk (fun g _ _ hl => HB78.out.block g hl)
    have HMO68 : Hid (MO w5.heap.size w8 m s6) := HMO67.out.blk (fun g _ _ hl => HB78.out.block g hl)
    have HSP := spoil_any w3.heap.size m s4 w8 HMO48.out
    go_wp2_with (refine list_sload MsK rfl _ rfl (b := p4) (cs := msL m s4) rfl H58.out rfl ?_)
    refine HSP.mono ?_
    rintro e w9 ⟨⟨u9, rfl⟩, hs9, hk9⟩
    have z3 := HB3.out.size
    have z4 := HB4.out.size
    have z5 := HB5.out.size
    have z47 := HB47.out.size
    have z57 := HB57.out.size
    have z78 := HB78.out.size
    have hp4 := HP4.out
    have hp6 := HP6.out
    have z56 := HB6.out.size
    have r4 : ∀ g, Mown s4 g → w3.heap.size ≤ g ∧ g < w4.heap.size := HMO4.out.rng
    have HB09 : Hid (Below w.heap.size w w9) := ⟨hs9.os.trans HB08.out.os, hs9.tape.trans HB08.out.tape, hs9.output.trans HB08.out.output, Nat.le_trans HB08.out.size hs9.size, fun g hg => (hk9 g (by omega) (fun h => by have := r4 g h; omega)).trans (HB08.out.block g hg)⟩
    have HO9 : Hid (OwnL E8 w.heap.size w9 (.slice oa n oc) xs) := by
      refine (HO3.out.bel HB38.out).blk (fun g e => ?_)
      have := HO3.out.row.lt g e
      exact hk9 g (by omega) (fun h => by have := r4 g h; omega)
    have H59 : Hid (SB MsK p4 (msL m s4) w9) := SB.blk H58.out (hk9 p4 (SB.lt H58.out) (fun h => by have := r4 p4 h; omega))
    have H79 : Hid (SB MsK p6 (msL m s6) w9) := SB.blk H78.out (hk9 p6 (SB.lt H78.out) (fun h => by have := r4 p6 h; omega))
    have HMO69 : Hid (MO w5.heap.size w9 m s6) := HMO68.out.blk (fun g _ hg hl => hk9 g hl (fun h => by have := r4 g h; omega))
    have HP45 : Hid (p4 < w5.heap.size ∧ p6 < w9.heap.size ∧ p4 < p6) := ⟨by have := SB.lt H5.out; exact this, SB.lt H79.out, by have := SB.lt H5.out; omega⟩
    clear hs9 hk9 HSP H58 H78 HMO48 HMO68 H57 H7 H5 z3 z4 z5 z47 z57 z78 hp4 hp6 z56 r4 HB78 HB38 HB08 HMO47 HMO67
    go_wp2_with fail
    refine (decode_any oa n oc xs HN.out hoc w9 HO9.out.lst.1 HU.out).mono ?_
    rw [HD.out]
    rintro e w10 ⟨s10, rfl, hmo10, hb10⟩
    dsimp only at hmo10 ⊢
    have HMO10 : Hid (MO w9.heap.size w10 m s10) := hmo10
    have HB10 : Hid (Below w9.heap.size w9 w10) := hb10
    have H5A : Hid (SB MsK p4 (msL m s4) w10) := SB.blk H59.out (hb10.block _ (SB.lt H59.out))
    have H7A : Hid (SB MsK p6 (msL m s6) w10) := SB.blk H79.out (hb10.block _ (SB.lt H79.out))
    have HMO6A : Hid (MO w5.heap.size w10 m s6) := HMO69.out.blk (fun g _ _ hl => hb10.block g hl)
    have HB0A : Hid (Below w.heap.size w w10) := HB09.out.trans (hb10.mono HB09.out.size)
    clear hmo10 hb10
    go_wp2_with (refine list_sstore MsK rfl _ _ rfl (b := p4) (cs := msL m s4) (cs' := msL m s10) rfl rfl H5A.out rfl rfl rfl ?_)
    intro w11 h11 hk11
    have HP3 : Hid (w.heap.size ≤ p4 ∧ p4 < w5.heap.size ∧ w5.heap.size ≤ w9.heap.size ∧ p4 < p6) := by
      have h1 := HB3.out.size
      have h2 := HB4.out.size
      have h3 := HP4.out
      have h4 := HP45.out
      have h5 := HMO69.out
      have h6 := HB57.out.size
      have h7 := HP6.out
      have h8 := HB6.out.size
      exact ⟨by omega, h4.1, by have := h4.2.1; omega, h4.2.2⟩
    have H7B : Hid (SB MsK p6 (msL m s6) w11) := SB.blk H7A.out (hk11.out.block p6 (by have := HP3.out; omega))
    have HMO6B : Hid (MO w5.heap.size w11 m s6) := HMO6A.out.blk (fun g _ hg _ => hk11.out.block g (by have := HP3.out; omega))
    have HMOAB : Hid (MO w9.heap.size w11 m s10) := HMO10.out.blk (fun g _ hg _ => hk11.out.block g (by have := HP3.out; omega))
    have HB0B : Hid (Below w.heap.size w w11) := HB0A.out.trans (hk11.out.below HP3.out.1)
    have HSM2 := msame_any m s10 s6 w11 HMOAB.out.ok HMO6B.out.ok
    have here : (er == er) = true := by simp
    go_wp2_with (first | (refine list_sloadg MsK rfl _ rfl (b := p4) (cs := msL m s10) rfl h11.out rfl ?_) | (refine list_sloadg MsK rfl _ rfl (b := p6) (cs := msL m s6) rfl H7B.out rfl ?_))
    refine HSM2.mono ?_
    rintro e w12 ⟨rfl, hb12⟩
    have HB0C : Hid (Below w.heap.size w w12) := HB0B.out.trans (hb12.mono HB0B.out.size)
    clear hb12 HSM2
    go_wp2_with fail
    go_ret
    exact ⟨rfl, HB0C.out⟩
end Go.Proofs.Ytghlgkpfcpcopaa.Pv
