/- The caller writes into what came out: pvSpoil. -/
import Derived.Test.YtghlgkpfcpcopaaMgI
namespace Go.Proofs.Ytghlgkpfcpcopaa.Pv
open Go.ChangeShapes Go.WideShapes Go.ChangeAt Go.RowKit Go.Joins Go.Proofs.Ytghlgkpfcpcopaa.PM Go.Proofs.Ytghlgkpfcpcopaa.Ask Go.Proofs.Ytghlgkpfcpcopaa.Ge
set_option linter.unusedVariables false

/-- a list of so many, whatever it holds -/
def OwnN {α : Type} (E : El α) (N : Nat) (W : World) (a : Option Addr) (n c : Nat) : Prop := ∃ xs, xs.length = n ∧ OwnL E N W (.slice a n c) xs
theorem OwnN.keep {α : Type} {E : El α} {N n c b : Nat} {W W' : World} {a : Option Addr} (h : OwnN E N W a n c) (hk : Ko W b W') (hb : ¬ ob a = some b) : OwnN E N W' a n c := by
  obtain ⟨xs, hx, ho⟩ := h
  exact ⟨xs, hx, own_obk ho (fun g e _ _ => hk.block g (fun e2 => hb (by rw [← e2]; exact e)))⟩
theorem OwnN.bel {α : Type} {E : El α} {N n c : Nat} {W W' : World} {a : Option Addr} (h : OwnN E N W a n c) (hb : Below W.heap.size W W') : OwnN E N W' a n c := by
  obtain ⟨xs, hx, ho⟩ := h
  exact ⟨xs, hx, ho.bel hb⟩
/-- what the caller may turn, and what it has not -/
structure SpJ (w : World) (N b1 : Nat) (m : Ms) (s : Sl) (W : World) : Prop where
  bx : MB b1 m s W
  b1 : w.heap.size ≤ b1
  ol : OwnN E2 N W s.l (m.lost.length) s.lc
  oh : OwnN E2 N W s.h (m.hv.length) s.hc
  op : OwnN EI N W s.p (m.rt.path.length) s.pc
  om : OwnN EI N W s.m (m.rt.marks.length) s.mc
  oc : OwnN EI N W s.c (m.rt.clus.length) s.cc
  nn : ∀ g, Mown s g → g < w.heap.size
  d : Dis [ob s.l, ob s.h, ob s.p, ob s.m, ob s.c]
  kp : ∀ g, g < w.heap.size → ¬ Mown s g → W.heap[g]? = w.heap[g]?
  str : Below 0 w W
theorem dis_five {a b c d e : Option Nat} (h : Dis [a, b, c, d, e]) : ∀ g, (a = some g → ¬ b = some g ∧ ¬ c = some g ∧ ¬ d = some g ∧ ¬ e = some g) ∧ (b = some g → ¬ c = some g ∧ ¬ d = some g ∧ ¬ e = some g) ∧ (c = some g → ¬ d = some g ∧ ¬ e = some g) ∧ (d = some g → ¬ e = some g) := by
  unfold Dis at h
  simp only [List.pairwise_cons, List.mem_cons, List.not_mem_nil, or_false, forall_eq_or_imp, forall_eq, List.Pairwise.nil, and_true] at h
  obtain ⟨⟨h1, h2, h3, h4⟩, ⟨h5, h6, h7⟩, ⟨h8, h9⟩, h10, -⟩ := h
  exact fun g => ⟨fun e => ⟨h1 g e, h2 g e, h3 g e, h4 g e⟩, fun e => ⟨h5 g e, h6 g e, h7 g e⟩, fun e => ⟨h8 g e, h9 g e⟩, fun e => h10 g e⟩
theorem SpJ.wl {w W W' : World} {N b1 g : Nat} {m : Ms} {s : Sl} (h : SpJ w N b1 m s W) (e : ob s.l = some g) (hk : Ko W g W') (ho : OwnN E2 N W' s.l (m.lost.length) s.lc) : SpJ w N b1 m s W' := by
  have hg : Mown s g := .inl e
  have hl := h.nn g hg
  have hb := h.b1
  exact ⟨h.bx.blk (hk.block _ (by omega)), h.b1, ho, h.oh.keep hk (fun e2 => by have := dis_five h.d g; simp_all), h.op.keep hk (fun e2 => by have := dis_five h.d g; simp_all), h.om.keep hk (fun e2 => by have := dis_five h.d g; simp_all), h.oc.keep hk (fun e2 => by have := dis_five h.d g; simp_all), h.nn, h.d, fun g2 h1 h2 => (hk.block g2 (fun e2 => h2 (by rw [e2]; exact hg))).trans (h.kp g2 h1 h2), h.str.trans hk.str⟩
theorem SpJ.wh {w W W' : World} {N b1 g : Nat} {m : Ms} {s : Sl} (h : SpJ w N b1 m s W) (e : ob s.h = some g) (hk : Ko W g W') (ho : OwnN E2 N W' s.h (m.hv.length) s.hc) : SpJ w N b1 m s W' := by
  have hg : Mown s g := .inr (.inl e)
  have hl := h.nn g hg
  have hb := h.b1
  exact ⟨h.bx.blk (hk.block _ (by omega)), h.b1, h.ol.keep hk (fun e2 => by have := dis_five h.d g; simp_all), ho, h.op.keep hk (fun e2 => by have := dis_five h.d g; simp_all), h.om.keep hk (fun e2 => by have := dis_five h.d g; simp_all), h.oc.keep hk (fun e2 => by have := dis_five h.d g; simp_all), h.nn, h.d, fun g2 h1 h2 => (hk.block g2 (fun e2 => h2 (by rw [e2]; exact hg))).trans (h.kp g2 h1 h2), h.str.trans hk.str⟩
theorem SpJ.wp {w W W' : World} {N b1 g : Nat} {m : Ms} {s : Sl} (h : SpJ w N b1 m s W) (e : ob s.p = some g) (hk : Ko W g W') (ho : OwnN EI N W' s.p (m.rt.path.length) s.pc) : SpJ w N b1 m s W' := by
  have hg : Mown s g := .inr (.inr (.inl e))
  have hl := h.nn g hg
  have hb := h.b1
  exact ⟨h.bx.blk (hk.block _ (by omega)), h.b1, h.ol.keep hk (fun e2 => by have := dis_five h.d g; simp_all), h.oh.keep hk (fun e2 => by have := dis_five h.d g; simp_all), ho, h.om.keep hk (fun e2 => by have := dis_five h.d g; simp_all), h.oc.keep hk (fun e2 => by have := dis_five h.d g; simp_all), h.nn, h.d, fun g2 h1 h2 => (hk.block g2 (fun e2 => h2 (by rw [e2]; exact hg))).trans (h.kp g2 h1 h2), h.str.trans hk.str⟩
theorem SpJ.wm {w W W' : World} {N b1 g : Nat} {m : Ms} {s : Sl} (h : SpJ w N b1 m s W) (e : ob s.m = some g) (hk : Ko W g W') (ho : OwnN EI N W' s.m (m.rt.marks.length) s.mc) : SpJ w N b1 m s W' := by
  have hg : Mown s g := .inr (.inr (.inr (.inl e)))
  have hl := h.nn g hg
  have hb := h.b1
  exact ⟨h.bx.blk (hk.block _ (by omega)), h.b1, h.ol.keep hk (fun e2 => by have := dis_five h.d g; simp_all), h.oh.keep hk (fun e2 => by have := dis_five h.d g; simp_all), h.op.keep hk (fun e2 => by have := dis_five h.d g; simp_all), ho, h.oc.keep hk (fun e2 => by have := dis_five h.d g; simp_all), h.nn, h.d, fun g2 h1 h2 => (hk.block g2 (fun e2 => h2 (by rw [e2]; exact hg))).trans (h.kp g2 h1 h2), h.str.trans hk.str⟩
theorem SpJ.wc {w W W' : World} {N b1 g : Nat} {m : Ms} {s : Sl} (h : SpJ w N b1 m s W) (e : ob s.c = some g) (hk : Ko W g W') (ho : OwnN EI N W' s.c (m.rt.clus.length) s.cc) : SpJ w N b1 m s W' := by
  have hg : Mown s g := .inr (.inr (.inr (.inr e)))
  have hl := h.nn g hg
  have hb := h.b1
  exact ⟨h.bx.blk (hk.block _ (by omega)), h.b1, h.ol.keep hk (fun e2 => by have := dis_five h.d g; simp_all), h.oh.keep hk (fun e2 => by have := dis_five h.d g; simp_all), h.op.keep hk (fun e2 => by have := dis_five h.d g; simp_all), h.om.keep hk (fun e2 => by have := dis_five h.d g; simp_all), ho, h.nn, h.d, fun g2 h1 h2 => (hk.block g2 (fun e2 => h2 (by rw [e2]; exact hg))).trans (h.kp g2 h1 h2), h.str.trans hk.str⟩
theorem SpJ.bel {w W W' : World} {N b1 : Nat} {m : Ms} {s : Sl} (h : SpJ w N b1 m s W) (hb : Below W.heap.size W W') : SpJ w N b1 m s W' :=
  ⟨h.bx.blk (hb.block _ h.bx.lt), h.b1, h.ol.bel hb, h.oh.bel hb, h.op.bel hb, h.om.bel hb, h.oc.bel hb, h.nn, h.d, fun g h1 h2 => (hb.block g (by have := h.str.size; omega)).trans (h.kp g h1 h2), h.str.trans (hb.mono (Nat.zero_le _))⟩
/-- a message's lists are the call's own, whatever they hold -/
structure Mn (N : Nat) (w : World) (m : Ms) (s : Sl) : Prop where
  ol : OwnN E2 N w s.l (m.lost.length) s.lc
  oh : OwnN E2 N w s.h (m.hv.length) s.hc
  op : OwnN EI N w s.p (m.rt.path.length) s.pc
  om : OwnN EI N w s.m (m.rt.marks.length) s.mc
  oc : OwnN EI N w s.c (m.rt.clus.length) s.cc
  d : Dis [ob s.l, ob s.h, ob s.p, ob s.m, ob s.c]
  rng : ∀ g, Mown s g → N ≤ g ∧ g < w.heap.size
theorem MO.mn {N : Nat} {w : World} {m : Ms} {s : Sl} (h : MO N w m s) : Mn N w m s := ⟨⟨_, rfl, h.l⟩, ⟨_, rfl, h.h⟩, ⟨_, rfl, h.r.p⟩, ⟨_, rfl, h.r.m⟩, ⟨_, rfl, h.r.c⟩, h.d, h.rng⟩
theorem OwnN.blk {α : Type} {E : El α} {N n c : Nat} {W W' : World} {a : Option Addr} (h : OwnN E N W a n c) (hb : ∀ g, ob a = some g → g < W.heap.size → W'.heap[g]? = W.heap[g]?) : OwnN E N W' a n c := by
  obtain ⟨xs, hx, ho⟩ := h
  exact ⟨xs, hx, own_obk ho (fun g e _ hl => hb g e hl)⟩
theorem Mn.blk {N : Nat} {w w' : World} {m : Ms} {s : Sl} (h : Mn N w m s) (hz : w.heap.size ≤ w'.heap.size) (hb : ∀ g, Mown s g → g < w.heap.size → w'.heap[g]? = w.heap[g]?) : Mn N w' m s :=
  ⟨h.ol.blk (fun g e => hb g (.inl e)), h.oh.blk (fun g e => hb g (.inr (.inl e))), h.op.blk (fun g e => hb g (.inr (.inr (.inl e)))), h.om.blk (fun g e => hb g (.inr (.inr (.inr (.inl e))))), h.oc.blk (fun g e => hb g (.inr (.inr (.inr (.inr e))))), h.d, fun g hg => ⟨(h.rng g hg).1, Nat.lt_of_lt_of_le (h.rng g hg).2 hz⟩⟩
theorem sp_begin {w W : World} {N : Nat} {m : Ms} {s : Sl} (h : Mn N w m s) (hb : Below w.heap.size w W) (hm : MB w.heap.size m s W) : SpJ w N w.heap.size m s W :=
  ⟨hm, Nat.le_refl _, h.ol.bel hb, h.oh.bel hb, h.op.bel hb, h.om.bel hb, h.oc.bel hb, fun g hg => (h.rng g hg).2, h.d, fun g hg _ => hb.block g hg, hb.mono (Nat.zero_le _)⟩
/-- one item of a list is turned: what the walk wants, and what it leaves -/
theorem own_two {N n c i : Nat} {W : World} {a : Option Addr} (h : OwnN E2 N W a n c) (hi : i < n) : ∃ g, a = some ⟨g, 0, none⟩ ∧ ob a = some g ∧ (∃ v, W.cell? ⟨g, i * 2, none⟩ = some v) ∧ (∃ v, W.cell? ⟨g, i * 2 + 1, none⟩ = some v) ∧ W.frozen? ⟨g, i * 2, none⟩ = false ∧ W.frozen? ⟨g, i * 2 + 1, none⟩ = false ∧ OwnN E2 N ((W.setCell ⟨g, i * 2, none⟩ (.int .u32 0)).setCell ⟨g, i * 2 + 1, none⟩ (.int .i64 77)) a n c := by
  obtain ⟨xs, hx, ho⟩ := h
  subst hx
  obtain ⟨b, o, rfl, -, -⟩ := lst2 ho.lst.1 i hi
  obtain ⟨a', c', e, -, -, h4⟩ := ho.form
  injection e with e1
  obtain ⟨rfl, -, -⟩ := h4 b o e1.symm
  obtain ⟨h1, h2, h3, -⟩ := ho.at0
  have c0 := h1 i hi 0 (by decide)
  have c1 := h1 i hi 1 (by decide)
  refine ⟨b, rfl, rfl, ⟨.int .u32 xs[i].1, by simpa [E2] using c0⟩, ⟨.int .i64 xs[i].2, by simpa [E2] using c1⟩, h2 _, h2 _, ?_⟩
  have k1 := ho.setc (i := i) (j := 0) hi (by decide) (.int .u32 0) (0, xs[i].2) rfl
  have k2 := k1.setc (i := i) (j := 1) (by rw [List.length_set]; exact hi) (by decide) (.int .i64 77) (0, 77) (by simp [E2])
  exact ⟨(xs.set i (0, xs[i].2)).set i (0, 77), by rw [List.length_set, List.length_set], k2⟩
theorem own_int {N n c i : Nat} {W : World} {a : Option Addr} (h : OwnN EI N W a n c) (hi : i < n) : ∃ g, a = some ⟨g, 0, none⟩ ∧ ob a = some g ∧ (∃ v, W.cell? ⟨g, i, none⟩ = some v) ∧ W.frozen? ⟨g, i, none⟩ = false ∧ OwnN EI N (W.setCell ⟨g, i, none⟩ (.int .i64 (-9))) a n c := by
  obtain ⟨xs, hx, ho⟩ := h
  subst hx
  obtain ⟨b, o, rfl, -, -⟩ := lstI ho.lst.1 i hi
  obtain ⟨a', c', e, -, -, h4⟩ := ho.form
  injection e with e1
  obtain ⟨rfl, -, -⟩ := h4 b o e1.symm
  obtain ⟨h1, h2, h3, -⟩ := ho.at0
  have c0 := h1 i hi 0 (by decide)
  refine ⟨b, rfl, rfl, ⟨.int .i64 xs[i], by simpa [EI] using c0⟩, h2 _, ?_⟩
  have k1 := ho.setc (i := i) (j := 0) hi (by decide) (.int .i64 (-9)) (-9) rfl
  have e1 : i * EI.k + 0 = i := by show i * 1 + 0 = i; omega
  rw [e1] at k1
  exact ⟨xs.set i (-9), by rw [List.length_set], k1⟩
/-- one of the lists of numbers -/
structure Spl (w : World) (N b1 : Nat) (m : Ms) (s : Sl) (a : Option Addr) (n c : Nat) : Prop where
  own : ∀ W, SpJ w N b1 m s W → OwnN EI N W a n c
  wr : ∀ W W' g, SpJ w N b1 m s W → ob a = some g → Ko W g W' → OwnN EI N W' a n c → SpJ w N b1 m s W'
  mo : ∀ g, ob a = some g → Mown s g
theorem spl_p (w : World) (N b1 : Nat) (m : Ms) (s : Sl) : Spl w N b1 m s s.p (m.rt.path.length) s.pc := ⟨fun _ h => h.op, fun _ _ _ h e k o => h.wp e k o, fun _ e => .inr (.inr (.inl e))⟩
theorem spl_m (w : World) (N b1 : Nat) (m : Ms) (s : Sl) : Spl w N b1 m s s.m (m.rt.marks.length) s.mc := ⟨fun _ h => h.om, fun _ _ _ h e k o => h.wm e k o, fun _ e => .inr (.inr (.inr (.inl e)))⟩
theorem spl_c (w : World) (N b1 : Nat) (m : Ms) (s : Sl) : Spl w N b1 m s s.c (m.rt.clus.length) s.cc := ⟨fun _ h => h.oc, fun _ _ _ h e k o => h.wc e k o, fun _ e => .inr (.inr (.inr (.inr e)))⟩
set_option maxRecDepth 100000 in
set_option maxHeartbeats 16000000 in
theorem spoil_own (N : Nat) (m : Ms) (s : Sl) (w : World) (h : Mn N w m s) :
    Calls Try.prog 11 #[msV m s] w fun e w' => (∃ u, e = .returned u) ∧ Below 0 w w' ∧ ∀ g, g < w.heap.size → ¬ Mown s g → w'.heap[g]? = w.heap[g]? := by
  have HO : Hid (Mn N w m s) := h
  clear h
  go_enter Try.func11, Try.ntmps11
  go_wp2_with (refine list_sbox MsK rfl _ rfl (cs := msL m s) rfl ?_)
  intro W1 h1 hbw hz1
  have HJ0 : Hid (SpJ w N w.heap.size m s W1) := sp_begin HO.out hbw.out h1.out
  clear h1 hbw hz1 HO
  obtain ⟨b1, hb1⟩ : ∃ k, w.heap.size = k := ⟨_, rfl⟩
  have HJ : Hid (SpJ w N b1 m s W1) := by rw [← hb1]; exact HJ0.out
  rw [hb1]
  clear hb1 HJ0
  obtain ⟨nl, hnl⟩ : ∃ k, m.lost.length = k := ⟨_, rfl⟩
  obtain ⟨nh, hnh⟩ : ∃ k, m.hv.length = k := ⟨_, rfl⟩
  obtain ⟨np, hnp⟩ : ∃ k, m.rt.path.length = k := ⟨_, rfl⟩
  obtain ⟨nm, hnm⟩ : ∃ k, m.rt.marks.length = k := ⟨_, rfl⟩
  obtain ⟨nc, hnc⟩ : ∃ k, m.rt.clus.length = k := ⟨_, rfl⟩
  have hbl : nl ≤ 9223372036854775807 := by rw [← hnl]; obtain ⟨xs, hx, ho⟩ := HJ.out.ol; have := ho.lst.1.small; omega
  have hbh : nh ≤ 9223372036854775807 := by rw [← hnh]; obtain ⟨xs, hx, ho⟩ := HJ.out.oh; have := ho.lst.1.small; omega
  have hbp : np ≤ 9223372036854775807 := by rw [← hnp]; obtain ⟨xs, hx, ho⟩ := HJ.out.op; have := ho.lst.1.small; omega
  have hbm : nm ≤ 9223372036854775807 := by rw [← hnm]; obtain ⟨xs, hx, ho⟩ := HJ.out.om; have := ho.lst.1.small; omega
  have hbc : nc ≤ 9223372036854775807 := by rw [← hnc]; obtain ⟨xs, hx, ho⟩ := HJ.out.oc; have := ho.lst.1.small; omega
  have HNL : Hid (m.lost.length = nl) := hnl
  have HNH : Hid (m.hv.length = nh) := hnh
  have HNP : Hid (m.rt.path.length = np) := hnp
  have HNM : Hid (m.rt.marks.length = nm) := hnm
  have HNC : Hid (m.rt.clus.length = nc) := hnc
  obtain ⟨al, hal⟩ : ∃ k, s.l = k := ⟨_, rfl⟩
  obtain ⟨ah, hah⟩ : ∃ k, s.h = k := ⟨_, rfl⟩
  obtain ⟨ap, hap⟩ : ∃ k, s.p = k := ⟨_, rfl⟩
  obtain ⟨am, ham⟩ : ∃ k, s.m = k := ⟨_, rfl⟩
  obtain ⟨ac, hac⟩ : ∃ k, s.c = k := ⟨_, rfl⟩
  have HAL : Hid (s.l = al) := hal
  have HAH : Hid (s.h = ah) := hah
  have HAP : Hid (s.p = ap) := hap
  have HAM : Hid (s.m = am) := ham
  have HAC : Hid (s.c = ac) := hac
  have HC : Hid (∀ W, SpJ w N b1 m s W → W.cell? ⟨b1, 5, none⟩ = some (.slice al nl s.lc) ∧ W.cell? ⟨b1, 6, none⟩ = some (.slice ah nh s.hc) ∧ W.cell? ⟨b1, 9, none⟩ = some (.slice ap np s.pc) ∧ W.cell? ⟨b1, 14, none⟩ = some (.slice am nm s.mc) ∧ W.cell? ⟨b1, 15, none⟩ = some (.slice ac nc s.cc)) := by
    intro W hW
    rw [← hnl, ← hnh, ← hnp, ← hnm, ← hnc, ← hal, ← hah, ← hap, ← ham, ← hac]
    exact ⟨hW.bx.cell 5, hW.bx.cell 6, hW.bx.cell 9, hW.bx.cell 14, hW.bx.cell 15⟩
  clear hnl hnh hnp hnm hnc hal hah hap ham hac
  obtain ⟨e5, e6, e9, e14, e15⟩ := HC.out _ HJ.out
  go_wp2_with fail
  go_loopw [10] (fun iv wr => ∃ i : Nat, i ≤ nl ∧ iv = .int .i64 (i : Int) ∧ SpJ w N b1 m s wr) (fun i _ => nl - (intOf i).toNat)
  case atStart => exact ⟨0, by omega, rfl, HJ.out⟩
  case round =>
    obtain ⟨i, hi, rfl, hj⟩ := hrel
    have HR : Hid (SpJ w N b1 m s wr) := hj
    clear hj
    by_cases hlt : i < nl
    · as_aux_lemma =>
      have hlti : (i : Int) < (nl : Int) := by omega
      obtain ⟨q5, q6, q9, q14, q15⟩ := HC.out _ HR.out
      obtain ⟨g, eg, eo, ⟨v0, c0⟩, ⟨v1, c1⟩, f0, f1, ho⟩ := own_two HR.out.ol (i := i) (by rw [HNL.out]; exact hlt)
      have HW : Hid (SpJ w N b1 m s ((wr.setCell ⟨g, i * 2, none⟩ (.int .u32 0)).setCell ⟨g, i * 2 + 1, none⟩ (.int .i64 77))) := HR.out.wl eo ((Ko.set _ _ _ _).trans (Ko.set _ _ _ _)) ho
      rw [HAL.out] at eg
      subst eg
      clear ho eo
      go_wp2_with fail
      exact ⟨⟨i + 1, by omega, by simp, HW.out⟩, by simp [intOf]; omega⟩
    · as_aux_lemma =>
      obtain rfl : nl = i := by omega
      have hlti : ¬ (nl : Int) < (nl : Int) := by omega
      have HJ2 : Hid (SpJ w N b1 m s wr) := HR.out
      obtain ⟨e5, e6, e9, e14, e15⟩ := HC.out _ HJ2.out
      obtain ⟨WHJ2, hWHJ2⟩ : ∃ x, wr = x := ⟨_, rfl⟩
      rw [hWHJ2] at HJ2 e5 e6 e9 e14 e15 ⊢
      clear HR HJ hWHJ2 hlt hi
      go_wp2_with fail
      go_loopw [22] (fun iv wr => ∃ i : Nat, i ≤ nh ∧ iv = .int .i64 (i : Int) ∧ SpJ w N b1 m s wr) (fun i _ => nh - (intOf i).toNat)
      case atStart => exact ⟨0, by omega, rfl, HJ2.out⟩
      case round =>
        obtain ⟨i, hi, rfl, hj⟩ := hrel
        have HR : Hid (SpJ w N b1 m s wr) := hj
        clear hj
        by_cases hlt : i < nh
        · as_aux_lemma =>
          have hlti : (i : Int) < (nh : Int) := by omega
          obtain ⟨q5, q6, q9, q14, q15⟩ := HC.out _ HR.out
          obtain ⟨g, eg, eo, ⟨v0, c0⟩, ⟨v1, c1⟩, f0, f1, ho⟩ := own_two HR.out.oh (i := i) (by rw [HNH.out]; exact hlt)
          have HW : Hid (SpJ w N b1 m s ((wr.setCell ⟨g, i * 2, none⟩ (.int .u32 0)).setCell ⟨g, i * 2 + 1, none⟩ (.int .i64 77))) := HR.out.wh eo ((Ko.set _ _ _ _).trans (Ko.set _ _ _ _)) ho
          rw [HAH.out] at eg
          subst eg
          clear ho eo
          go_wp2_with fail
          exact ⟨⟨i + 1, by omega, by simp, HW.out⟩, by simp [intOf]; omega⟩
        · as_aux_lemma =>
          obtain rfl : nh = i := by omega
          have hlti : ¬ (nh : Int) < (nh : Int) := by omega
          have HJ3 : Hid (SpJ w N b1 m s wr) := HR.out
          obtain ⟨e5, e6, e9, e14, e15⟩ := HC.out _ HJ3.out
          obtain ⟨WHJ3, hWHJ3⟩ : ∃ x, wr = x := ⟨_, rfl⟩
          rw [hWHJ3] at HJ3 e5 e6 e9 e14 e15 ⊢
          clear HR HJ2 hWHJ3 hlt hi
          obtain ⟨W4, hW4⟩ : ∃ x, WHJ3.alloc (Obj.cells #[.slice ap np s.pc, .slice am nm s.mc, .slice ac nc s.cc] 27) = x := ⟨_, rfl⟩
          obtain ⟨bb, hbb⟩ : ∃ x, WHJ3.heap.size = x := ⟨_, rfl⟩
          have hbel : Below WHJ3.heap.size WHJ3 W4 := by rw [← hW4]; exact (Below.refl _ _).alloc (Nat.le_refl _) _
          have HJ4 : Hid (SpJ w N b1 m s W4) := HJ3.out.bel hbel
          have HBB : Hid (w.heap.size ≤ bb) := by show _ ≤ _; rw [← hbb]; exact HJ3.out.str.size
          have HB4 : Hid (W4.heap[bb]? = some (Obj.cells #[.slice ap np s.pc, .slice am nm s.mc, .slice ac nc s.cc] 27)) := by show _ = _; rw [← hW4, ← hbb]; exact World.alloc_heap_new WHJ3 _
          clear hbel
          go_upto_region 12 with fail
          clear hW4 hbb HJ3
          go_loopw [42] (fun jv wr => ∃ j : Nat, j ≤ 3 ∧ jv = .int .i64 (j : Int) ∧ SpJ w N b1 m s wr ∧ wr.heap[bb]? = some (Obj.cells #[.slice ap np s.pc, .slice am nm s.mc, .slice ac nc s.cc] 27)) (fun j _ => 3 - (intOf j).toNat)
          case atStart => exact ⟨0, by omega, rfl, HJ4.out, HB4.out⟩
          case round =>
            obtain ⟨j, hj, rfl, hs, hb⟩ := hrel
            have HR : Hid (SpJ w N b1 m s wr) := hs
            have HRB : Hid (wr.heap[bb]? = some (Obj.cells #[.slice ap np s.pc, .slice am nm s.mc, .slice ac nc s.cc] 27)) := hb
            clear hs hb
            by_cases hlt : j < 3
            · have hlti : (j : Int) < 3 := by omega
              obtain ⟨aj, nj, cj, dj, hnj, hsel⟩ : ∃ aj nj cj, wr.cell? ⟨bb, j, none⟩ = some (.slice aj nj cj) ∧ nj ≤ 9223372036854775807 ∧ Spl w N b1 m s aj nj cj := by
                have h5 : j = 0 ∨ j = 1 ∨ j = 2 := by omega
                rcases h5 with rfl | rfl | rfl
                · exact ⟨ap, np, s.pc, by unfold World.cell?; rw [HRB.out]; rfl, hbp, by rw [← HAP.out, ← HNP.out]; exact spl_p w N b1 m s⟩
                · exact ⟨am, nm, s.mc, by unfold World.cell?; rw [HRB.out]; rfl, hbm, by rw [← HAM.out, ← HNM.out]; exact spl_m w N b1 m s⟩
                · exact ⟨ac, nc, s.cc, by unfold World.cell?; rw [HRB.out]; rfl, hbc, by rw [← HAC.out, ← HNC.out]; exact spl_c w N b1 m s⟩
              have HSEL : Hid (Spl w N b1 m s aj nj cj) := hsel
              clear hsel
              go_wp2_with fail
              obtain ⟨w5, hw5⟩ : ∃ x, wr = x := ⟨_, rfl⟩
              rw [hw5] at HR HRB dj ⊢
              clear hw5
              go_loopw [48] (fun iv wr => ∃ i : Nat, i ≤ nj ∧ iv = .int .i64 (i : Int) ∧ SpJ w N b1 m s wr ∧ wr.heap[bb]? = some (Obj.cells #[.slice ap np s.pc, .slice am nm s.mc, .slice ac nc s.cc] 27)) (fun i _ => nj - (intOf i).toNat)
              case atStart => exact ⟨0, by omega, rfl, HR.out, HRB.out⟩
              case round =>
                obtain ⟨i, hi, rfl, hs, hb⟩ := hrel
                have HR2 : Hid (SpJ w N b1 m s wr) := hs
                have HRB2 : Hid (wr.heap[bb]? = some (Obj.cells #[.slice ap np s.pc, .slice am nm s.mc, .slice ac nc s.cc] 27)) := hb
                clear hs hb
                by_cases hlt2 : i < nj
                · have hlti2 : (i : Int) < (nj : Int) := by omega
                  obtain ⟨g, eg, eo, ⟨v0, c0⟩, f0, ho⟩ := own_int (HSEL.out.own _ HR2.out) (i := i) hlt2
                  have HW : Hid (SpJ w N b1 m s (wr.setCell ⟨g, i, none⟩ (.int .i64 (-9)))) := HSEL.out.wr _ _ g HR2.out eo (Ko.set _ _ _ _) ho
                  have HWB : Hid ((wr.setCell ⟨g, i, none⟩ (.int .i64 (-9))).heap[bb]? = some (Obj.cells #[.slice ap np s.pc, .slice am nm s.mc, .slice ac nc s.cc] 27)) := ((Ko.set wr g i (.int .i64 (-9))).block bb (by have := HR2.out.nn g (HSEL.out.mo g eo); have := HBB.out; omega)).trans HRB2.out
                  subst eg
                  clear ho eo
                  go_wp2_with fail
                  exact ⟨⟨i + 1, by omega, by simp, HW.out, HWB.out⟩, by simp [intOf]; omega⟩
                · obtain rfl : nj = i := by omega
                  have hlti2 : ¬ (nj : Int) < (nj : Int) := by omega
                  go_wp2_with fail
                  exact ⟨⟨j + 1, by omega, by simp, HR2.out, HRB2.out⟩, by simp [intOf]; omega⟩
            · obtain rfl : j = 3 := by omega
              go_wp2_with fail
              refine ⟨rfl, .tuple #[], ?_, ⟨_, rfl⟩, HR.out.str, HR.out.kp⟩
              simp [results, Try.results11, go_sem]
theorem spoil_any (N : Nat) (m : Ms) (s : Sl) (w : World) (h : MO N w m s) :
    Calls Try.prog 11 #[msV m s] w fun e w' => (∃ u, e = .returned u) ∧ Below 0 w w' ∧ ∀ g, g < w.heap.size → ¬ Mown s g → w'.heap[g]? = w.heap[g]? := spoil_own N m s w h.mn
end Go.Proofs.Ytghlgkpfcpcopaa.Pv
