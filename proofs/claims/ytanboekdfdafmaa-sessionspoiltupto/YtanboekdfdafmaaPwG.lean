/- What an update tells: reader.update. -/
import Derived.Test.YtanboekdfdafmaaPwF
namespace Go.Proofs.Ytanboekdfdafmaa.Pv
open Go.ChangeShapes Go.WideShapes Go.ChangeAt Go.RowKit Go.Joins Go.Proofs.Ytanboekdfdafmaa.PM Go.Proofs.Ytanboekdfdafmaa.Ask Go.Proofs.Ytanboekdfdafmaa.Ge
set_option linter.unusedVariables false

def msL (m : Ms) (s : Sl) : List Value := [.int .i64 m.kind, .int .i64 m.dom, .int .i64 m.id, .int .i64 m.hold, .int .i64 m.code, .slice s.l m.lost.length s.lc, .slice s.h m.hv.length s.hc, .int .u32 m.rt.pa, .int .i64 m.rt.pn, .slice s.p m.rt.path.length s.pc, .int .i64 m.rt.org, .int .i64 m.rt.pref, .int .i64 m.rt.med, .int .u32 m.rt.next, .slice s.m m.rt.marks.length s.mc, .slice s.c m.rt.clus.length s.cc, .int .i64 m.rt.auth]
/-- a box that holds a message -/
def MB (bm : Nat) (m : Ms) (s : Sl) (w : World) : Prop := w.heap[bm]? = some (Obj.cells (msL m s).toArray 54)
theorem MB.blk {bm : Nat} {m : Ms} {s : Sl} {w w' : World} (h : MB bm m s w) (hb : w'.heap[bm]? = w.heap[bm]?) : MB bm m s w' := hb.trans h
theorem MB.lt {bm : Nat} {m : Ms} {s : Sl} {w : World} (h : MB bm m s w) : bm < w.heap.size := (Array.getElem?_eq_some_iff.1 h).1
theorem MB.fro {bm : Nat} {m : Ms} {s : Sl} {w : World} (h : MB bm m s w) (i : Nat) : w.frozen? ⟨bm, i, none⟩ = false := by unfold World.frozen?; rw [h]; simp
theorem MB.cell {bm : Nat} {m : Ms} {s : Sl} {w : World} (h : MB bm m s w) (i : Nat) : w.cell? ⟨bm, i, none⟩ = (msL m s)[i]? := by unfold World.cell?; rw [h]; simp
theorem MB.box {bm : Nat} {m : Ms} {s : Sl} {w : World} (h : MB bm m s w) : MBox bm m s w := ⟨h.cell 0, h.cell 1, h.cell 2, h.cell 3, h.cell 4, h.cell 5, h.cell 6, h.cell 7, h.cell 8, h.cell 9, h.cell 10, h.cell 11, h.cell 12, h.cell 13, h.cell 14, h.cell 15, h.cell 16⟩
theorem MB.set {bm : Nat} {m m2 : Ms} {s s2 : Sl} {w : World} (h : MB bm m s w) (i : Nat) (v : Value) (he : (msL m s).toArray.setIfInBounds i v = (msL m2 s2).toArray) : MB bm m2 s2 (w.setCell ⟨bm, i, none⟩ v) := by
  unfold MB
  rw [heap_setCell_same w bm i _ _ v h, he]
/-- a new route in its place -/
theorem MB.setR {bm : Nat} {m : Ms} {s s2 : Sl} {t : Rt} {w : World} (h : MB bm m s w) : MB bm { m with rt := t } { s2 with l := s.l, lc := s.lc, h := s.h, hc := s.hc } (((((((((((w).setCell ⟨bm, 7, none⟩ (.int .u32 t.pa)).setCell ⟨bm, 8, none⟩ (.int .i64 t.pn)).setCell ⟨bm, 9, none⟩ (.slice s2.p t.path.length s2.pc)).setCell ⟨bm, 10, none⟩ (.int .i64 t.org)).setCell ⟨bm, 11, none⟩ (.int .i64 t.pref)).setCell ⟨bm, 12, none⟩ (.int .i64 t.med)).setCell ⟨bm, 13, none⟩ (.int .u32 t.next)).setCell ⟨bm, 14, none⟩ (.slice s2.m t.marks.length s2.mc)).setCell ⟨bm, 15, none⟩ (.slice s2.c t.clus.length s2.cc)).setCell ⟨bm, 16, none⟩ (.int .i64 t.auth)) := by
  have h0 := h
  unfold MB at h0 ⊢
  have h1 := heap_setCell_same _ bm 7 _ _ (.int .u32 t.pa) h0
  have h2 := heap_setCell_same _ bm 8 _ _ (.int .i64 t.pn) h1
  have h3 := heap_setCell_same _ bm 9 _ _ (.slice s2.p t.path.length s2.pc) h2
  have h4 := heap_setCell_same _ bm 10 _ _ (.int .i64 t.org) h3
  have h5 := heap_setCell_same _ bm 11 _ _ (.int .i64 t.pref) h4
  have h6 := heap_setCell_same _ bm 12 _ _ (.int .i64 t.med) h5
  have h7 := heap_setCell_same _ bm 13 _ _ (.int .u32 t.next) h6
  have h8 := heap_setCell_same _ bm 14 _ _ (.slice s2.m t.marks.length s2.mc) h7
  have h9 := heap_setCell_same _ bm 15 _ _ (.slice s2.c t.clus.length s2.cc) h8
  have h10 := heap_setCell_same _ bm 16 _ _ (.int .i64 t.auth) h9
  rw [h10]
  simp [msL]
theorem Kr.setR (w : World) (bm : Nat) (t : Rt) (s2 : Sl) : Kr w bm (((((((((((w).setCell ⟨bm, 7, none⟩ (.int .u32 t.pa)).setCell ⟨bm, 8, none⟩ (.int .i64 t.pn)).setCell ⟨bm, 9, none⟩ (.slice s2.p t.path.length s2.pc)).setCell ⟨bm, 10, none⟩ (.int .i64 t.org)).setCell ⟨bm, 11, none⟩ (.int .i64 t.pref)).setCell ⟨bm, 12, none⟩ (.int .i64 t.med)).setCell ⟨bm, 13, none⟩ (.int .u32 t.next)).setCell ⟨bm, 14, none⟩ (.slice s2.m t.marks.length s2.mc)).setCell ⟨bm, 15, none⟩ (.slice s2.c t.clus.length s2.cc)).setCell ⟨bm, 16, none⟩ (.int .i64 t.auth)) := ((((((((((Kr.set _ _ _ _).trans (Kr.set _ _ _ _)).trans (Kr.set _ _ _ _)).trans (Kr.set _ _ _ _)).trans (Kr.set _ _ _ _)).trans (Kr.set _ _ _ _)).trans (Kr.set _ _ _ _)).trans (Kr.set _ _ _ _)).trans (Kr.set _ _ _ _)).trans (Kr.set _ _ _ _))
/-- a message's lists are the call's own, and apart -/
structure MO (N : Nat) (w : World) (m : Ms) (s : Sl) : Prop where
  l : OwnL E2 N w (.slice s.l m.lost.length s.lc) m.lost
  h : OwnL E2 N w (.slice s.h m.hv.length s.hc) m.hv
  r : RO N w m.rt s
  d : Dis [ob s.l, ob s.h, ob s.p, ob s.m, ob s.c]
  il : ∀ p ∈ m.lost, InA p
  ih : ∀ p ∈ m.hv, InA p
def Mown (s : Sl) (g : Nat) : Prop := ob s.l = some g ∨ ob s.h = some g ∨ Rown s g
theorem MO.blk {N : Nat} {w w' : World} {m : Ms} {s : Sl} (h : MO N w m s) (hb : ∀ g, Mown s g → N ≤ g → g < w.heap.size → w'.heap[g]? = w.heap[g]?) : MO N w' m s :=
  ⟨own_obk h.l (fun g e => hb g (.inl e)), own_obk h.h (fun g e => hb g (.inr (.inl e))), h.r.blk (fun g e => hb g (.inr (.inr e))), h.d, h.il, h.ih⟩
theorem MO.rng {N : Nat} {w : World} {m : Ms} {s : Sl} (h : MO N w m s) (g : Nat) (hg : Mown s g) : N ≤ g ∧ g < w.heap.size := by
  rcases hg with e | e | e
  · exact own_obr h.l g e
  · exact own_obr h.h g e
  · exact h.r.rng g e
theorem own_cap {α : Type} {E : El α} {N n c : Nat} {w : World} {a : Option Addr} {xs : List α} (h : OwnL E N w (.slice a n c) xs) : xs.length ≤ c := by
  obtain ⟨a', c', e, h1, -⟩ := h.form
  cases e
  exact h1
theorem MO.ok {N : Nat} {w : World} {m : Ms} {s : Sl} (h : MO N w m s) : MOk w m s :=
  ⟨h.l.lst.1, h.h.lst.1, own_cap h.l, own_cap h.h, h.il, h.ih, ⟨h.r.p.lst.1, h.r.m.lst.1, h.r.c.lst.1, own_cap h.r.p, own_cap h.r.m, own_cap h.r.c, h.r.n0, h.r.n1⟩⟩
theorem MO.mono {N N' : Nat} {w : World} {m : Ms} {s : Sl} (h : MO N w m s) (hn : N' ≤ N) : MO N' w m s :=
  ⟨h.l.mono hn, h.h.mono hn, ⟨h.r.p.mono hn, h.r.m.mono hn, h.r.c.mono hn, h.r.d, h.r.n0, h.r.n1⟩, h.d, h.il, h.ih⟩
theorem rpfx_in {r r2 : List Nat} {p : Int × Int} (hu : ∀ d ∈ r, d < 256) (h : rpfx r = some (p, r2)) : InA p ∧ (0 ≤ p.2 ∧ p.2 ≤ 32) ∧ (∀ d ∈ r2, d < 256) := by
  by_cases h1 : 1 ≤ r.length
  · by_cases h32 : 32 < num (r.take 1)
    · rw [rpfx_big h1 rfl h32] at h; cases h
    · by_cases hz : bsz (num (r.take 1)) ≤ (r.drop 1).length
      · rw [rpfx_ok h1 rfl h32 rfl hz rfl] at h
        cases h
        obtain ⟨-, h5⟩ := num_ltk (xs := r.drop 1) (fun d hd => hu d (List.mem_of_mem_drop hd)) _ hz (bsz_le (by omega))
        have h32' : num (r.take 1) ≤ 32 := by omega
        generalize num (r.take 1) = t at *
        unfold pfV InA
        dsimp only
        refine ⟨⟨by omega, by omega⟩, ⟨by omega, by omega⟩, fun d hd => hu d (List.mem_of_mem_drop (List.mem_of_mem_drop hd))⟩
      · rw [rpfx_short h1 rfl h32 rfl hz] at h; cases h
  · rw [rpfx_nil h1] at h; cases h
theorem rpfxs_in : ∀ (n : Nat) (r : List Nat) (ps : List (Int × Int)), (∀ d ∈ r, d < 256) → rpfxs n r = some ps → ∀ p ∈ ps, InA p
  | 0, r, ps, hu, h => by
    unfold rpfxs at h
    split at h
    · cases h; intro p hp; cases hp
    · cases h
  | n + 1, r, ps, hu, h => by
    unfold rpfxs at h
    split at h
    · cases h; intro p hp; cases hp
    · split at h
      · cases h
      · rename_i p0 r2 e
        split at h
        · cases h
        · rename_i l e2
          cases h
          obtain ⟨h1, -, h3⟩ := rpfx_in hu e
          intro p hp
          rcases List.mem_cons.1 hp with e3 | e3
          · rw [e3]; exact h1
          · exact rpfxs_in n r2 l h3 e2 p e3
theorem pfxsR_in {r : List Nat} {ps : List (Int × Int)} (hu : ∀ d ∈ r, d < 256) (h : pfxsR r = some ps) : ∀ p ∈ ps, InA p := rpfxs_in _ _ _ hu h
theorem Rdr.pce {M br n c : Nat} {w : World} {a : Option Addr} {xs : List Nat} (h : Rdr M w br a n c xs) : Pce M w a n c xs := ⟨⟨h.l, h.nil, h.len⟩, h.cap, h.low, h.u8⟩
def msU : Ms := ⟨2, 0, 0, 0, 0, [], [], rtZ⟩
def UpPost (w : World) (bm br : Nat) (o : Option (Ms × List Nat)) (e : Ending) (w' : World) : Prop :=
  match o with
  | none => e = pan ∧ Kr2 w bm br w' ∧ ∃ m s, MB bm m s w'
  | some (m, body) => ∃ s v, e = .returned v ∧ OwnL E8 w.heap.size w' v body ∧ MB bm m s w' ∧ MO w.heap.size w' m s ∧ Kr2 w bm br w'
theorem rupd_1 {b : List Nat} (h : rpiece b = none) : rupd b = none := by unfold rupd; rw [h]
theorem rupd_2 {b lost r1 : List Nat} (h : rpiece b = some (lost, r1)) (h2 : rpiece r1 = none) : rupd b = none := by unfold rupd; rw [h]; dsimp only; rw [h2]
theorem rupd_3 {b lost r1 ats hv : List Nat} (h : rpiece b = some (lost, r1)) (h2 : rpiece r1 = some (ats, hv)) (h3 : pfxsR lost = none) : rupd b = none := by unfold rupd; rw [h]; dsimp only; rw [h2]; dsimp only; rw [h3]
theorem rupd_4 {b lost r1 ats hv : List Nat} {ls : List (Int × Int)} (h : rpiece b = some (lost, r1)) (h2 : rpiece r1 = some (ats, hv)) (h3 : pfxsR lost = some ls) (h4 : attrsR 0 rtZ ats.length ats = none) : rupd b = none := by unfold rupd; rw [h]; dsimp only; rw [h2]; dsimp only; rw [h3]; dsimp only; rw [h4]
theorem rupd_5 {b lost r1 ats hv : List Nat} {ls : List (Int × Int)} {t : Rt} {kn : Nat} (h : rpiece b = some (lost, r1)) (h2 : rpiece r1 = some (ats, hv)) (h3 : pfxsR lost = some ls) (h4 : attrsR 0 rtZ ats.length ats = some (t, kn)) (h5 : pfxsR hv = none) : rupd b = none := by unfold rupd; rw [h]; dsimp only; rw [h2]; dsimp only; rw [h3]; dsimp only; rw [h4]; dsimp only; rw [h5]
theorem rupd_6 {b lost r1 ats hv : List Nat} {ls hs : List (Int × Int)} {t : Rt} {kn : Nat} (h : rpiece b = some (lost, r1)) (h2 : rpiece r1 = some (ats, hv)) (h3 : pfxsR lost = some ls) (h4 : attrsR 0 rtZ ats.length ats = some (t, kn)) (h5 : pfxsR hv = some hs) : rupd b = some (⟨2, 0, 0, 0, 0, ls, hs, t⟩, updB lost (ats.take (ats.length - kn)) hv) := by unfold rupd; rw [h]; dsimp only; rw [h2]; dsimp only; rw [h3]; dsimp only; rw [h4]; dsimp only; rw [h5]
theorem Kr2.of {w w1 w2 : World} {bm br x : Nat} (h : Kr2 w bm br w1) (k : Kr w1 x w2) (hx : x = bm ∨ x = br ∨ w.heap.size ≤ x) : Kr2 w bm br w2 := ⟨h.str.trans k.str, fun b hb h1 h2 => (k.block b (Nat.lt_of_lt_of_le hb h.str.size) (by omega)).trans (h.block b hb h1 h2)⟩
theorem Kr2.bel {w w1 w2 : World} {bm br : Nat} (h : Kr2 w bm br w1) (hb : Below w1.heap.size w1 w2) : Kr2 w bm br w2 := ⟨h.str.trans (hb.mono (Nat.zero_le _)), fun b hl h1 h2 => (hb.block b (Nat.lt_of_lt_of_le hl h.str.size)).trans (h.block b hl h1 h2)⟩
theorem dis5 {a b : Option Nat} {s : Sl} (e1 : ∀ g, a = some g → ¬ b = some g) (e2 : ∀ g, a = some g → ¬ Rown s g) (e3 : ∀ g, b = some g → ¬ Rown s g) (h : Dis [ob s.p, ob s.m, ob s.c]) : Dis [a, b, ob s.p, ob s.m, ob s.c] := by
  unfold Dis at h ⊢
  refine List.Pairwise.cons ?_ (List.Pairwise.cons ?_ h)
  · intro x hx g hg hxg
    simp only [List.mem_cons, List.not_mem_nil, or_false] at hx
    rcases hx with rfl | rfl | rfl | rfl
    · exact e1 g hg hxg
    · exact e2 g hg (.inl hxg)
    · exact e2 g hg (.inr (.inl hxg))
    · exact e2 g hg (.inr (.inr hxg))
  · intro x hx g hg hxg
    simp only [List.mem_cons, List.not_mem_nil, or_false] at hx
    rcases hx with rfl | rfl | rfl
    · exact e3 g hg (.inl hxg)
    · exact e3 g hg (.inr (.inl hxg))
    · exact e3 g hg (.inr (.inr hxg))
set_option maxRecDepth 100000 in
set_option maxHeartbeats 16000000 in
theorem update_any (M br bm : Nat) (a : Option Addr) (n c : Nat) (xs : List Nat) (hbig : n ≤ 100000) (w : World) (h : Rdr M w br a n c xs) (hb : MB bm msU sZ w) (hne : ¬ bm = br) (hmb : M ≤ bm) :
    Calls Try.prog 79 #[.pointer (some ⟨br, 0, none⟩), .pointer (some ⟨bm, 0, none⟩)] w (UpPost w bm br (rupd xs)) := by
  have H : Hid (Rdr M w br a n c xs) := h
  have HM : Hid (MB bm msU sZ w) := hb
  have HL : Hid (xs.length = n) := h.len
  have hbm := hb.lt
  have hbr := h.lt
  have hMbr := h.ge
  clear h hb
  go_enter Try.func79, Try.ntmps79
  go_wp2_with fail
  refine (rpiece_any M br a n c xs w H.out).mono ?_
  intro e w1 hpost
  cases hx1 : rpiece xs with
  | none =>
    rw [hx1] at hpost
    obtain ⟨rfl, hk1⟩ := hpost
    have HQ : Hid (UpPost w bm br (rupd xs) pan w1) := by
      show UpPost _ _ _ _ _ _
      rw [rupd_1 hx1]
      exact ⟨rfl, hk1.two bm, _, _, HM.out.blk (hk1.block bm hbm hne)⟩
    unfold pan at HQ ⊢
    clear hk1 hx1
    go_wp2_with fail
    exact ⟨rfl, HQ.out⟩
  | some q1 =>
    obtain ⟨lost, r1⟩ := q1
    rw [hx1] at hpost
    obtain ⟨p1, a1, c1, rfl, hp1, hr1, hk1⟩ := hpost
    have HX1 : Hid (rpiece xs = some (lost, r1)) := hx1
    obtain ⟨l1, hl1⟩ : ∃ l, lost.length = l := ⟨_, rfl⟩
    rw [hl1] at hp1 ⊢
    have hb1 : l1 ≤ 100000 ∧ r1.length ≤ 100000 := by
      obtain ⟨-, -, h5, -⟩ := rpiece_len hx1
      rw [HL.out, hl1] at h5
      omega
    have HP1 : Hid (Pce M w1 p1 l1 l1 lost) := hp1
    have HR1 : Hid (Rdr M w1 br a1 r1.length c1 r1) := hr1
    have HK1 : Hid (Kr w br w1) := hk1
    clear hp1 hr1 hk1 hx1
    go_wp2_with fail
    refine (rpiece_any M br a1 r1.length c1 r1 w1 HR1.out).mono ?_
    intro e w2 hpost
    cases hx2 : rpiece r1 with
    | none =>
      rw [hx2] at hpost
      obtain ⟨rfl, hk2⟩ := hpost
      have HQ : Hid (UpPost w bm br (rupd xs) pan w2) := by
        show UpPost _ _ _ _ _ _
        rw [rupd_2 HX1.out hx2]
        exact ⟨rfl, (HK1.out.trans hk2).two bm, _, _, HM.out.blk ((HK1.out.trans hk2).block bm hbm hne)⟩
      unfold pan at HQ ⊢
      clear hk2 hx2
      go_wp2_with fail
      exact ⟨rfl, HQ.out⟩
    | some q2 =>
      obtain ⟨ats, hv⟩ := q2
      rw [hx2] at hpost
      obtain ⟨p2, a2, c2, rfl, hp2, hr2, hk2⟩ := hpost
      have HX2 : Hid (rpiece r1 = some (ats, hv)) := hx2
      obtain ⟨l2, hl2⟩ : ∃ l, ats.length = l := ⟨_, rfl⟩
      obtain ⟨l3, hl3⟩ : ∃ l, hv.length = l := ⟨_, rfl⟩
      have hb2 : l2 ≤ 100000 ∧ l3 ≤ 100000 := by
        obtain ⟨-, -, h5, -⟩ := rpiece_len hx2
        rw [hl2, hl3] at h5
        omega
      rw [hl2] at hp2 ⊢
      rw [hl3] at hr2
      have HP2 : Hid (Pce M w2 p2 l2 l2 ats) := hp2
      have HP3 : Hid (Pce M w2 a2 l3 c2 hv) := hr2.pce
      have hcell := hr2.cell
      have HK2 : Hid (Kr w br w2) := HK1.out.trans hk2
      have hMw2 : M ≤ w2.heap.size := hr2.mlt
      have HP1b : Hid (Pce M w2 p1 l1 l1 lost) := HP1.out.bel (hk2.below hMbr HR1.out.mlt)
      have HM2 : Hid (MB bm msU sZ w2) := HM.out.blk (HK2.out.block bm hbm hne)
      have hsz2 : w.heap.size ≤ w2.heap.size := HK2.out.str.size
      clear hp2 hr2 hk2 hx2 HP1 HR1 HK1 HM
      go_wp2_with fail
      obtain ⟨w3, hw3⟩ : ∃ w3, w2.alloc (Obj.cells #[.slice p1 l1 l1] 127) = w3 := ⟨_, rfl⟩
      obtain ⟨b3, hb3⟩ : ∃ k, w2.heap.size = k := ⟨_, rfl⟩
      obtain ⟨hr3, hbl3, hs3⟩ := rdr_new HP1b.out hMw2 hw3
      rw [hw3, hb3]
      rw [hb3] at hr3 hs3 hbl3 hsz2 hMw2
      have HR3 := rprefixes_any M b3 p1 l1 l1 lost (by omega) w3 hr3
      have HK3 : Hid (Kr2 w bm br w3) := (HK2.out.two bm).bel (by rw [hb3]; exact hbl3)
      have HM3 : Hid (MB bm msU sZ w3) := HM2.out.blk (hbl3.block bm (by omega))
      have HP13 : Hid (Pce M w3 p1 l1 l1 lost) := HP1b.out.bel (hbl3.mono (by omega))
      have HP23 : Hid (Pce M w3 p2 l2 l2 ats) := HP2.out.bel (hbl3.mono (by omega))
      have HP33 : Hid (Pce M w3 a2 l3 c2 hv) := HP3.out.bel (hbl3.mono (by omega))
      clear hw3 hb3 hr3 hbl3 hcell HK2 HM2 HP1b HP2 HP3
      refine HR3.mono ?_
      intro e w4 hpost
      clear HR3
      cases hx3 : pfxsR lost with
      | none =>
        rw [hx3] at hpost
        obtain ⟨rfl, hk4⟩ := hpost
        have HQ : Hid (UpPost w bm br (rupd xs) pan w4) := by
          show UpPost _ _ _ _ _ _
          rw [rupd_3 HX1.out HX2.out hx3]
          exact ⟨rfl, HK3.out.of hk4 (by omega), _, _, HM3.out.blk (hk4.block bm HM3.out.lt (by omega))⟩
        unfold pan at HQ ⊢
        clear hk4 hx3
        go_wp2_with fail
        exact ⟨rfl, HQ.out⟩
      | some ls =>
        rw [hx3] at hpost
        obtain ⟨v4, rfl, ho4, hk4⟩ := hpost
        have HX3 : Hid (pfxsR lost = some ls) := hx3
        obtain ⟨va4, vc4, hv4, -⟩ := ho4.form
        subst hv4
        obtain ⟨w5, hw5⟩ : ∃ w5, w4.setCell ⟨bm, 5, none⟩ (.slice va4 ls.length vc4) = w5 := ⟨_, rfl⟩
        have hM4 : MB bm msU sZ w4 := HM3.out.blk (hk4.block bm (by omega) (by omega))
        have hf5 := hM4.fro 5
        have hc5 : w4.cell? ⟨bm, 5, none⟩ = some (.slice none 0 0) := hM4.cell 5
        have hkr5 : Kr w4 bm w5 := by rw [← hw5]; exact Kr.set _ _ _ _
        have HM5 : Hid (MB bm { msU with lost := ls } { sZ with l := va4, lc := vc4 } w5) := by
          rw [← hw5]
          exact hM4.set 5 _ (by simp [msL])
        have HK5 : Hid (Kr2 w bm br w5) := (HK3.out.of hk4 (by omega)).of hkr5 (.inl rfl)
        have hs4 := hk4.str.size
        have hs5 := hkr5.str.size
        have HO5 : Hid (OwnL E2 w.heap.size w5 (.slice va4 ls.length vc4) ls) := (own_obk ho4 (fun g _ hg hl => hkr5.block g hl (by omega))).mono (by omega)
        have hbM5 : Below M w3 w5 := (hk4.below (by omega) (by omega)).trans (hkr5.below hmb (by omega))
        have HP15 : Hid (Pce M w5 p1 l1 l1 lost) := HP13.out.bel hbM5
        have HP25 : Hid (Pce M w5 p2 l2 l2 ats) := HP23.out.bel hbM5
        have HP35 : Hid (Pce M w5 a2 l3 c2 hv) := HP33.out.bel hbM5
        have HIL : Hid (∀ p ∈ ls, InA p) := pfxsR_in HP13.out.u8 hx3
        obtain ⟨L4, hL4⟩ : ∃ L, ls.length = L := ⟨_, rfl⟩
        rw [hL4] at hw5 HO5 ⊢
        have HW5 : Hid (w4.setCell ⟨bm, 5, none⟩ (.slice va4 L4 vc4) = w5) := hw5
        have HL4 : Hid (ls.length = L4) := hL4
        have hM5s : M ≤ w5.heap.size := by omega
        have hbm5 : bm < w5.heap.size := by omega
        have hsw5 : w.heap.size ≤ w5.heap.size := by omega
        clear hM4 hkr5 ho4 hk4 hbM5 hx3 hs4 hs5 HK3 HM3 HP13 HP23 HP33 hL4 hw5
        go_upto_region 5 with fail
        rw [HW5.out]
        clear HW5
        go_wp2_with fail
        refine (rattrs_any M p2 l2 l2 ats (by omega) w5 hM5s HP25.out).mono ?_
        intro e w6 hpost
        cases hx4 : attrsR 0 rtZ ats.length ats with
        | none =>
          rw [hx4] at hpost
          obtain ⟨rfl, hb6⟩ := hpost
          have HQ : Hid (UpPost w bm br (rupd xs) pan w6) := by
            show UpPost _ _ _ _ _ _
            rw [rupd_4 HX1.out HX2.out HX3.out hx4]
            exact ⟨rfl, HK5.out.bel hb6, _, _, HM5.out.blk (hb6.block bm HM5.out.lt)⟩
          unfold pan at HQ ⊢
          clear hb6 hx4
          go_wp2_with fail
          exact ⟨rfl, HQ.out⟩
        | some q4 =>
          obtain ⟨t, kn⟩ := q4
          rw [hx4] at hpost
          obtain ⟨s2, ka, k6, kc6, rfl, ho6, hp6, hb6⟩ := hpost
          have HX4 : Hid (attrsR 0 rtZ ats.length ats = some (t, kn)) := hx4
          have hM6 : MB bm { msU with lost := ls } { sZ with l := va4, lc := vc4 } w6 := HM5.out.blk (hb6.block bm hbm5)
          have hbM6 : Below M w5 w6 := hb6.mono hM5s
          have g7 := hM6.fro 7
          have c7 : w6.cell? ⟨bm, 7, none⟩ = some (.int .u32 0) := hM6.cell 7
          have g8 := hM6.fro 8
          have c8 : w6.cell? ⟨bm, 8, none⟩ = some (.int .i64 0) := hM6.cell 8
          have g9 := hM6.fro 9
          have c9 : w6.cell? ⟨bm, 9, none⟩ = some (.slice none 0 0) := hM6.cell 9
          have g10 := hM6.fro 10
          have c10 : w6.cell? ⟨bm, 10, none⟩ = some (.int .i64 0) := hM6.cell 10
          have g11 := hM6.fro 11
          have c11 : w6.cell? ⟨bm, 11, none⟩ = some (.int .i64 0) := hM6.cell 11
          have g12 := hM6.fro 12
          have c12 : w6.cell? ⟨bm, 12, none⟩ = some (.int .i64 0) := hM6.cell 12
          have g13 := hM6.fro 13
          have c13 : w6.cell? ⟨bm, 13, none⟩ = some (.int .u32 0) := hM6.cell 13
          have g14 := hM6.fro 14
          have c14 : w6.cell? ⟨bm, 14, none⟩ = some (.slice none 0 0) := hM6.cell 14
          have g15 := hM6.fro 15
          have c15 : w6.cell? ⟨bm, 15, none⟩ = some (.slice none 0 0) := hM6.cell 15
          have g16 := hM6.fro 16
          have c16 : w6.cell? ⟨bm, 16, none⟩ = some (.int .i64 0) := hM6.cell 16
          obtain ⟨w7, hw7⟩ : ∃ w7, ((((((((((w6).setCell ⟨bm, 7, none⟩ (.int .u32 t.pa)).setCell ⟨bm, 8, none⟩ (.int .i64 t.pn)).setCell ⟨bm, 9, none⟩ (.slice s2.p t.path.length s2.pc)).setCell ⟨bm, 10, none⟩ (.int .i64 t.org)).setCell ⟨bm, 11, none⟩ (.int .i64 t.pref)).setCell ⟨bm, 12, none⟩ (.int .i64 t.med)).setCell ⟨bm, 13, none⟩ (.int .u32 t.next)).setCell ⟨bm, 14, none⟩ (.slice s2.m t.marks.length s2.mc)).setCell ⟨bm, 15, none⟩ (.slice s2.c t.clus.length s2.cc)).setCell ⟨bm, 16, none⟩ (.int .i64 t.auth) = w7 := ⟨_, rfl⟩
          have hkr7 : Kr w6 bm w7 := by rw [← hw7]; exact Kr.setR w6 bm t s2
          have HM7 : Hid (MB bm { msU with lost := ls, rt := t } { s2 with l := va4, lc := vc4, h := none, hc := 0 } w7) := by
            rw [← hw7]
            exact hM6.setR
          have hs6 := hb6.size
          have hs7 := hkr7.str.size
          have HK7 : Hid (Kr2 w bm br w7) := (HK5.out.bel hb6).of hkr7 (.inl rfl)
          have hr5 : ∀ g, ob va4 = some g → w.heap.size ≤ g ∧ g < w5.heap.size := fun g e => own_obr HO5.out g e
          have HO7 : Hid (OwnL E2 w.heap.size w7 (.slice va4 L4 vc4) ls) := own_obk (own_obk HO5.out (fun g _ _ hl => hb6.block g hl)) (fun g e _ hl => hkr7.block g hl (by omega))
          have h67 : RO w5.heap.size w7 t s2 := ho6.blk (fun g hg hn5 hl => hkr7.block g hl (by omega))
          have HRO7 : Hid (RO w5.heap.size w7 t s2) := h67
          have hbM7 : Below M w5 w7 := hbM6.trans (hkr7.below hmb (by omega))
          have HP17 : Hid (Pce M w7 p1 l1 l1 lost) := HP15.out.bel hbM7
          have HP37 : Hid (Pce M w7 a2 l3 c2 hv) := HP35.out.bel hbM7
          have HPK7 : Hid (Pce M w7 ka k6 kc6 (ats.take (ats.length - kn))) := hp6.bel (hkr7.below hmb (by omega))
          have hk6l : k6 ≤ 100000 := by
            have h5 := hp6.p.len
            rw [List.length_take] at h5
            omega
          unfold rtV
          obtain ⟨q1, hq1⟩ : ∃ n, t.path.length = n := ⟨_, rfl⟩
          obtain ⟨q2, hq2⟩ : ∃ n, t.marks.length = n := ⟨_, rfl⟩
          obtain ⟨q3, hq3⟩ : ∃ n, t.clus.length = n := ⟨_, rfl⟩
          rw [hq1, hq2, hq3] at hw7 ⊢
          have HW7 : Hid (((((((((((w6).setCell ⟨bm, 7, none⟩ (.int .u32 t.pa)).setCell ⟨bm, 8, none⟩ (.int .i64 t.pn)).setCell ⟨bm, 9, none⟩ (.slice s2.p q1 s2.pc)).setCell ⟨bm, 10, none⟩ (.int .i64 t.org)).setCell ⟨bm, 11, none⟩ (.int .i64 t.pref)).setCell ⟨bm, 12, none⟩ (.int .i64 t.med)).setCell ⟨bm, 13, none⟩ (.int .u32 t.next)).setCell ⟨bm, 14, none⟩ (.slice s2.m q2 s2.mc)).setCell ⟨bm, 15, none⟩ (.slice s2.c q3 s2.cc)).setCell ⟨bm, 16, none⟩ (.int .i64 t.auth) = w7) := hw7
          have hM7s : M ≤ w7.heap.size := by omega
          have hbm7 : bm < w7.heap.size := by omega
          have hsw7 : w5.heap.size ≤ w7.heap.size := by omega
          clear hM6 hb6 ho6 hp6 hx4 hbM6 hbM7 hkr7 h67 hs6 hs7 hw7 hq1 hq2 hq3 HK5 HM5 HP15 HP25 HP35 hr5
          go_upto_region 6 with fail
          rw [HW7.out]
          clear HW7 g7 g8 g9 g10 g11 g12 g13 g14 g15 g16 c7 c8 c9 c10 c11 c12 c13 c14 c15 c16
          go_wp2_with fail
          obtain ⟨w8, hw8⟩ : ∃ w8, w7.alloc (Obj.cells #[.slice a2 l3 c2] 127) = w8 := ⟨_, rfl⟩
          obtain ⟨b8, hb8⟩ : ∃ k, w7.heap.size = k := ⟨_, rfl⟩
          obtain ⟨hr8, hbl8, hs8⟩ := rdr_new HP37.out hM7s hw8
          rw [hw8, hb8]
          rw [hb8] at hr8 hs8 hbl8 hM7s hbm7 hsw7
          have HR8 := rprefixes_any M b8 a2 l3 c2 hv (by omega) w8 hr8
          have HK8 : Hid (Kr2 w bm br w8) := HK7.out.bel (by rw [hb8]; exact hbl8)
          have HM8 : Hid (MB bm { msU with lost := ls, rt := t } { s2 with l := va4, lc := vc4, h := none, hc := 0 } w8) := HM7.out.blk (hbl8.block bm hbm7)
          have HP18 : Hid (Pce M w8 p1 l1 l1 lost) := HP17.out.bel (hbl8.mono hM7s)
          have HP38 : Hid (Pce M w8 a2 l3 c2 hv) := HP37.out.bel (hbl8.mono hM7s)
          have HPK8 : Hid (Pce M w8 ka k6 kc6 (ats.take (ats.length - kn))) := HPK7.out.bel (hbl8.mono hM7s)
          have HO8 : Hid (OwnL E2 w.heap.size w8 (.slice va4 L4 vc4) ls) := own_obk HO7.out (fun g _ _ hl => hbl8.block g (by omega))
          have HRO8 : Hid (RO w5.heap.size w8 t s2) := HRO7.out.blk (fun g _ _ hl => hbl8.block g (by omega))
          have HLT : Hid (∀ g, (ob va4 = some g ∨ Rown s2 g) → g < b8) := fun g hg => by
            rcases hg with e | e
            · have := own_obr HO7.out g e; omega
            · have := HRO7.out.rng g e; omega
          have HLP : Hid (∀ g, ob va4 = some g → g < w5.heap.size) := fun g e => (own_obr HO5.out g e).2
          clear hw8 hb8 hr8 hbl8 HK7 HM7 HP17 HP37 HPK7 HO7 HRO7 HO5
          refine HR8.mono ?_
          intro e w9 hpost
          clear HR8
          cases hx5 : pfxsR hv with
          | none =>
            rw [hx5] at hpost
            obtain ⟨rfl, hk9⟩ := hpost
            have HQ : Hid (UpPost w bm br (rupd xs) pan w9) := by
              show UpPost _ _ _ _ _ _
              rw [rupd_5 HX1.out HX2.out HX3.out HX4.out hx5]
              exact ⟨rfl, HK8.out.of hk9 (by omega), _, _, HM8.out.blk (hk9.block bm HM8.out.lt (by omega))⟩
            unfold pan at HQ ⊢
            clear hk9 hx5
            go_wp2_with fail
            exact ⟨rfl, HQ.out⟩
          | some hs =>
            rw [hx5] at hpost
            obtain ⟨v9, rfl, ho9, hk9⟩ := hpost
            obtain ⟨va9, vc9, hv9, -⟩ := ho9.form
            subst hv9
            obtain ⟨w10, hw10⟩ : ∃ w10, w9.setCell ⟨bm, 6, none⟩ (.slice va9 hs.length vc9) = w10 := ⟨_, rfl⟩
            have hM9 : MB bm { msU with lost := ls, rt := t } { s2 with l := va4, lc := vc4, h := none, hc := 0 } w9 := HM8.out.blk (hk9.block bm (by omega) (by omega))
            have hf6 := hM9.fro 6
            have hc6 : w9.cell? ⟨bm, 6, none⟩ = some (.slice none 0 0) := hM9.cell 6
            have hkr10 : Kr w9 bm w10 := by rw [← hw10]; exact Kr.set _ _ _ _
            have HM10 : Hid (MB bm ⟨2, 0, 0, 0, 0, ls, hs, t⟩ { s2 with l := va4, lc := vc4, h := va9, hc := vc9 } w10) := by
              rw [← hw10]
              exact hM9.set 6 _ (by simp [msL, msU])
            have hs9 := hk9.str.size
            have hs10 := hkr10.str.size
            have HK10 : Hid (Kr2 w bm br w10) := (HK8.out.of hk9 (by omega)).of hkr10 (.inl rfl)
            have HL9 : Hid (OwnL E2 w.heap.size w10 (.slice va4 L4 vc4) ls) := own_obk (own_obk HO8.out (fun g e _ hl => hk9.block g hl (by have := HLT.out g (.inl e); omega))) (fun g e hg hl => hkr10.block g hl (by omega))
            have hRO9 : RO w5.heap.size w10 t s2 := (HRO8.out.blk (fun g e _ hl => hk9.block g hl (by have := HLT.out g (.inr e); omega))).blk (fun g e hg hl => hkr10.block g hl (by omega))
            have hH10 : OwnL E2 w8.heap.size w10 (.slice va9 hs.length vc9) hs := own_obk ho9 (fun g _ hg hl => hkr10.block g hl (by omega))
            have HMO : Hid (MO w.heap.size w10 ⟨2, 0, 0, 0, 0, ls, hs, t⟩ { s2 with l := va4, lc := vc4, h := va9, hc := vc9 }) := by
              obtain ⟨d1, d2, d3⟩ := dis3.1 hRO9.d
              refine ⟨by dsimp only; rw [HL4.out]; exact HL9.out, hH10.mono (by omega), ⟨hRO9.p.mono (by omega), hRO9.m.mono (by omega), hRO9.c.mono (by omega), hRO9.d, hRO9.n0, hRO9.n1⟩, ?_, HIL.out, pfxsR_in HP38.out.u8 hx5⟩
              have e1 : ∀ g, ob va4 = some g → ¬ ob va9 = some g := fun g e e2 => by have := HLT.out g (.inl e); have := own_obr hH10 g e2; omega
              have e2 : ∀ g, ob va4 = some g → ¬ Rown s2 g := fun g e e2 => by have := HLP.out g e; have := hRO9.rng g e2; omega
              have e3 : ∀ g, ob va9 = some g → ¬ Rown s2 g := fun g e e2 => by have := HLT.out g (.inr e2); have := own_obr hH10 g e; omega
              exact dis5 e1 e2 e3 hRO9.d
            have hbM10 : Below M w8 w10 := (hk9.below (by omega) (by omega)).trans (hkr10.below hmb (by omega))
            have HP1A : Hid (Pce M w10 p1 l1 l1 lost) := HP18.out.bel hbM10
            have HP3A : Hid (Pce M w10 a2 l3 c2 hv) := HP38.out.bel hbM10
            have HPKA : Hid (Pce M w10 ka k6 kc6 (ats.take (ats.length - kn))) := HPK8.out.bel hbM10
            have HX5 : Hid (pfxsR hv = some hs) := hx5
            obtain ⟨L9, hL9⟩ : ∃ L, hs.length = L := ⟨_, rfl⟩
            rw [hL9] at hw10 ⊢
            have HW10 : Hid (w9.setCell ⟨bm, 6, none⟩ (.slice va9 L9 vc9) = w10) := hw10
            have hsw10 : w.heap.size ≤ w10.heap.size := by omega
            clear hM9 hkr10 ho9 hk9 hbM10 hx5 hs9 hs10 HK8 HM8 HP18 HP38 HPK8 hL9 hw10 HO8 HRO8 HL9 hRO9 hH10
            go_upto_region 7 with fail
            rw [HW10.out]
            clear HW10 hf6 hc6
            go_wp2_with fail
            refine (updateOf_any p1 l1 l1 lost ka k6 kc6 (ats.take (ats.length - kn)) a2 l3 c2 hv (by omega) (by omega) (by omega) w10 HP1A.out.p HPKA.out.p HP3A.out.p).mono ?_
            rintro e w11 ⟨v11, rfl, ho11, hb11⟩
            have HQ : Hid (UpPost w bm br (rupd xs) (.returned v11) w11) := by
              show UpPost _ _ _ _ _ _
              rw [rupd_6 HX1.out HX2.out HX3.out HX4.out HX5.out]
              exact ⟨_, v11, rfl, ho11.mono hsw10, HM10.out.blk (hb11.block bm HM10.out.lt), HMO.out.blk (fun g _ _ hl => hb11.block g hl), HK10.out.bel hb11⟩
            obtain ⟨va5, vc5, hv11, -⟩ := ho11.form
            obtain ⟨vl, hvl⟩ : ∃ q, (updB lost (ats.take (ats.length - kn)) hv).length = q := ⟨_, rfl⟩
            rw [hvl] at hv11
            subst hv11
            clear ho11 hb11 hvl
            go_wp2_with fail
            go_ret
            exact HQ.out
end Go.Proofs.Ytanboekdfdafmaa.Pv
