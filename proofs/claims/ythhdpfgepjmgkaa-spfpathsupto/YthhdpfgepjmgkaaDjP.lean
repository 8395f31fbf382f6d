/- newNetwork: of each port the last valid edge; all are entered. -/
import Derived.Test.YthhdpfgepjmgkaaDjO
namespace Go.Proofs.Ythhdpfgepjmgkaa.Dj
open Go.ChangeShapes Go.WideShapes Go.ChangeAt Go.RowKit Go.Joins Go.Deep Go.Proofs.Ythhdpfgepjmgkaa.Ge
set_option linter.unusedVariables false
set_option linter.unusedSimpArgs false

section
variable {κ β : Type}
/-- visited, left -/
structure Rg (es : Ents κ β) (seen : Array Nat) (vs rs : Ents κ β) : Prop where
  perm : (vs ++ rs).Perm es
  sn : seen = (vs.map (·.2.2)).toArray
theorem Rg.nil (es : Ents κ β) : Rg es #[] [] es := ⟨List.Perm.refl _, rfl⟩
theorem Rg.mem {es : Ents κ β} {seen : Array Nat} {vs rs : Ents κ β} (h : Rg es seen vs rs) {x : κ × β × Nat} (hx : x ∈ vs) : x.2.2 ∈ seen := by
  rw [h.sn]
  simp only [List.mem_toArray]
  exact List.mem_map.2 ⟨x, hx, rfl⟩
theorem Rg.step {es : Ents κ β} {seen : Array Nat} {vs rs : Ents κ β} (h : Rg es seen vs rs) {x : κ × β × Nat} (hx : x ∈ es) (hn : x.2.2 ∉ seen) : ∃ rs', Rg es (seen.push x.2.2) (vs ++ [x]) rs' := by
  have hm : x ∈ rs := by
    rcases List.mem_append.1 (h.perm.mem_iff.2 hx) with c | c
    · exact absurd (h.mem c) hn
    · exact c
  obtain ⟨l1, l2, rfl⟩ := List.append_of_mem hm
  refine ⟨l1 ++ l2, ?_, ?_⟩
  · refine List.Perm.trans ?_ h.perm
    rw [List.append_assoc]
    refine List.Perm.append_left vs ?_
    show (x :: (l1 ++ l2)).Perm _
    exact List.perm_middle.symm
  · rw [h.sn]
    simp
theorem Rg.size {es : Ents κ β} {seen : Array Nat} {vs rs : Ents κ β} (h : Rg es seen vs rs) : seen.size + rs.length = es.length := by
  have := h.perm.length_eq
  rw [List.length_append] at this
  rw [h.sn]
  simpa using this
theorem Rg.lt {es : Ents κ β} {seen : Array Nat} {vs rs : Ents κ β} (h : Rg es seen vs rs) {x : κ × β × Nat} (hx : x ∈ es) (hn : x.2.2 ∉ seen) : seen.size < es.length := by
  obtain ⟨rs', h'⟩ := h.step hx hn
  have := h'.size
  rw [Array.size_push] at this
  omega
theorem Rg.nd {es : Ents κ β} {c : Nat} (ok : Mok es c) {seen : Array Nat} {vs rs : Ents κ β} (h : Rg es seen vs rs) : ((vs ++ rs).map (·.2.2)).Nodup := (h.perm.map _).nodup_iff.2 ok.nb
theorem Rg.done {es : Ents κ β} {c : Nat} (ok : Mok es c) {seen : Array Nat} {vs rs : Ents κ β} (h : Rg es seen vs rs) (ha : ∀ x ∈ es, x.2.2 ∈ seen) : vs.Perm es := by
  have hr : rs = [] := by
    cases hrs : rs with
    | nil => rfl
    | cons x l =>
      exfalso
      subst hrs
      have hx := ha x (h.perm.mem_iff.1 (List.mem_append_right _ List.mem_cons_self))
      rw [h.sn] at hx
      simp only [List.mem_toArray] at hx
      have hnd := h.nd ok
      rw [List.map_append, List.nodup_append] at hnd
      exact hnd.2.2 _ hx _ (List.mem_map.2 ⟨x, List.mem_cons_self, rfl⟩) rfl
  have := h.perm
  rw [hr, List.append_nil] at this
  exact this
end
/-- how many an iterator has given -/
def sn (W : World) (r : Nat) : Nat := match W.heap[r]? with
  | some (.mapIter _ _ seen _) => seen.size
  | _ => 0
theorem sn_of {W : World} {r b since c0 : Nat} {seen : Array Nat} (h : IB r b since seen c0 W) : sn W r = seen.size := by unfold sn; rw [h]
theorem nodup_le {κ : Type} [DecidableEq κ] : ∀ (ks l : List κ), ks.Nodup → (∀ k ∈ ks, k ∈ l) → ks.length ≤ l.length
  | [], l, _, _ => Nat.zero_le _
  | k :: ks, l, hn, h => by
    rw [List.nodup_cons] at hn
    have h1 := nodup_le ks (l.erase k) hn.2 (fun x hx => (List.mem_erase_of_ne (fun e => hn.1 (by rw [← e]; exact hx))).2 (h x (List.mem_cons_of_mem _ hx)))
    have h2 := List.length_erase_of_mem (h k List.mem_cons_self)
    have h3 := List.length_pos_of_mem (h k List.mem_cons_self)
    rw [List.length_cons]
    omega
theorem ents_le_aux {κ α : Type} [DecidableEq κ] (f : α → κ) (ks : List κ) (es : List α) (hn : ks.Nodup) (h : ∀ k ∈ ks, ∃ e ∈ es, f e = k) : ks.length ≤ es.length := by
  have := nodup_le ks (es.map f) hn (fun k hk => by
    obtain ⟨e, he, rfl⟩ := h k hk
    exact List.mem_map.2 ⟨e, he, rfl⟩)
  rwa [List.length_map] at this
theorem Nw.bel {N : Nat} {b : Nb} {vs : List Ed} {Fo Fi : Nat → Prop} {em : Ents Pt Int} {cm : Nat} {eo : Ents Int Sl} {co : Nat} {ei : Ents Int Sl} {ci : Nat} {W W' : World} (h : Nw N b vs Fo Fi em cm eo co ei ci W) (hb : Below W.heap.size W W') : Nw N b vs Fo Fi em cm eo co ei ci W' := ⟨h.mm.blk (hb.block b.m h.mm.lt), h.mok, h.get, h.out.bel hb, h.inn.bel hb, h.sep, h.nm⟩
/-- the edge that counts at a port -/
def lastE (es : List Ed) (p : Pt) : Option Ed := (es.filter (fun e => vd e && decide ((e.f, e.l) = p))).getLast?
theorem last_next {es : List Ed} {i : Nat} (h : i < es.length) (p : Pt) : lastE (es.take (i + 1)) p = if vd es[i] = true ∧ p = (es[i].f, es[i].l) then some es[i] else lastE (es.take i) p := by
  unfold lastE
  rw [(List.take_append_getElem h).symm, List.filter_append]
  by_cases c : vd es[i] = true ∧ p = (es[i].f, es[i].l)
  · have e1 : List.filter (fun e => vd e && decide ((e.f, e.l) = p)) [es[i]] = [es[i]] := by simp [List.filter, c.1, c.2]
    rw [if_pos c, e1, List.getLast?_concat]
  · have e1 : List.filter (fun e => vd e && decide ((e.f, e.l) = p)) [es[i]] = [] := by
      rw [List.filter_eq_nil_iff]
      intro x hx
      rw [List.mem_singleton] at hx
      subst hx
      simp only [Bool.and_eq_true, decide_eq_true_eq]
      exact fun d => c ⟨d.1, d.2.symm⟩
    rw [if_neg c, e1, List.append_nil]
theorem last_mem {es : List Ed} {p : Pt} {e : Ed} (h : lastE es p = some e) : e ∈ es ∧ vd e = true ∧ (e.f, e.l) = p := by
  have h1 := List.mem_of_getLast? h
  rw [List.mem_filter] at h1
  simp only [Bool.and_eq_true, decide_eq_true_eq] at h1
  exact ⟨h1.1, h1.2.1, h1.2.2⟩
theorem ents_le {es : List Ed} {pe : Ents Pt Ed} {ce : Nat} (hok : Mok pe ce) (hg : ∀ p, mget pe p = lastE es p) : pe.length ≤ es.length := by
  have h := ents_le_aux (fun e : Ed => (e.f, e.l)) (pe.map (fun x => x.1)) es hok.nk (fun k hk => by
    obtain ⟨x, hx, rfl⟩ := List.mem_map.1 hk
    have h1 := mget_of_mem hok hx
    rw [hg] at h1
    obtain ⟨h2, h3, h4⟩ := last_mem h1
    exact ⟨_, h2, h4⟩)
  rwa [List.length_map] at h
def nz : List Value := [.map none, .map none, .map none, .map none]
set_option maxRecDepth 100000 in
theorem z_nw (W : World) : (zeroValue 54).run Try.prog W = .ok (.agg nz.toArray) W := by rfl
/-- ahead of entering -/
structure L1 (w : World) (b2 b3 : Nat) (b : Nb) (es : List Ed) (i : Nat) (W : World) : Prop where
  x2 : SB NwK b2 nz W
  x3 : SB NwK b3 (nwL b) W
  me : ∃ pe ce, MB MPE b.e pe ce W ∧ Mok pe ce ∧ ∀ p, mget pe p = lastE (es.take i) p
  mm : MB MPI b.m [] 0 W
  mo : MB MIS b.o [] 0 W
  mi : MB MIS b.i [] 0 W
  ord : w.heap.size ≤ b2 ∧ b2 < b.e ∧ b.e < b.m ∧ b.m < b.o ∧ b.o < b.i ∧ b.i < b3
  bel : Below w.heap.size w W
theorem L1.nx {w : World} {b2 b3 : Nat} {b : Nb} {es : List Ed} {i : Nat} {W W' : World} (h : L1 w b2 b3 b es i W) (hb : Below W.heap.size W W') : L1 w b2 b3 b es i W' := by
  obtain ⟨pe, ce, h1, h2⟩ := h.me
  exact ⟨h.x2.blk (hb.block _ h.x2.lt), h.x3.blk (hb.block _ h.x3.lt), ⟨pe, ce, h1.blk (hb.block _ h1.lt), h2⟩, h.mm.blk (hb.block _ h.mm.lt), h.mo.blk (hb.block _ h.mo.lt), h.mi.blk (hb.block _ h.mi.lt), h.ord, h.bel.trans (hb.mono h.bel.size)⟩
theorem L1.put {w : World} {b2 b3 : Nat} {b : Nb} {es : List Ed} {i j : Nat} {W W' : World} (h : L1 w b2 b3 b es i W) (hk : Ko W b.e W') (hm : ∃ pe ce, MB MPE b.e pe ce W' ∧ Mok pe ce ∧ ∀ p, mget pe p = lastE (es.take j) p) : L1 w b2 b3 b es j W' := by
  have o := h.ord
  exact ⟨h.x2.blk (hk.block _ (by omega)), h.x3.blk (hk.block _ (by omega)), hm, h.mm.blk (hk.block _ (by omega)), h.mo.blk (hk.block _ (by omega)), h.mi.blk (hk.block _ (by omega)), o, h.bel.trans (hk.below (by omega))⟩
theorem L1.same {w : World} {b2 b3 : Nat} {b : Nb} {es : List Ed} {i j : Nat} {W : World} (h : L1 w b2 b3 b es i W) (he : ∀ p, lastE (es.take i) p = lastE (es.take j) p) : L1 w b2 b3 b es j W := by
  obtain ⟨pe, ce, h1, h2, h3⟩ := h.me
  exact ⟨h.x2, h.x3, ⟨pe, ce, h1, h2, fun p => (h3 p).trans (he p)⟩, h.mm, h.mo, h.mi, h.ord, h.bel⟩
/-- the values of a map's entries -/
def evs (pe : Ents Pt Ed) : List Ed := pe.map (fun x => x.2.1)
/-- while they are entered -/
structure L2 (w : World) (b2 b3 r : Nat) (b : Nb) (pe : Ents Pt Ed) (ce : Nat) (seen : Array Nat) (vs : Ents Pt Ed) (W : World) : Prop where
  x2 : SB NwK b2 nz W
  x3 : SB NwK b3 (nwL b) W
  me : MB MPE b.e pe ce W
  it : IB r b.e ce seen ce W
  nw : ∃ Fo Fi em cm eo co ei ci, Nw w.heap.size b (evs vs) Fo Fi em cm eo co ei ci W ∧ (∀ g, g = b2 ∨ g = b3 ∨ g = b.e ∨ g = r → ¬ (g = b.m ∨ Fo g ∨ Fi g)) ∧ ∀ g, (g = b.m ∨ Fo g ∨ Fi g) → w.heap.size ≤ g
  lo : w.heap.size ≤ b2 ∧ w.heap.size ≤ b3 ∧ w.heap.size ≤ b.e ∧ w.heap.size ≤ r ∧ b2 ≠ r ∧ b3 ≠ r ∧ b.e ≠ r ∧ b2 ≠ b3
  bel : Below w.heap.size w W
theorem L2.nx {w : World} {b2 b3 r : Nat} {b : Nb} {pe : Ents Pt Ed} {ce : Nat} {seen : Array Nat} {vs : Ents Pt Ed} {W W' : World} (h : L2 w b2 b3 r b pe ce seen vs W) (hb : Below W.heap.size W W') : L2 w b2 b3 r b pe ce seen vs W' := by
  obtain ⟨Fo, Fi, em, cm, eo, co, ei, ci, h1, h2, h3⟩ := h.nw
  exact ⟨h.x2.blk (hb.block _ h.x2.lt), h.x3.blk (hb.block _ h.x3.lt), h.me.blk (hb.block _ h.me.lt), h.it.blk (hb.block _ h.it.lt), ⟨Fo, Fi, em, cm, eo, co, ei, ci, h1.bel hb, h2, h3⟩, h.lo, h.bel.trans (hb.mono h.bel.size)⟩
/-- the iterator has turned -/
theorem L2.turn {w : World} {b2 b3 r : Nat} {b : Nb} {pe : Ents Pt Ed} {ce : Nat} {seen seen' : Array Nat} {vs : Ents Pt Ed} {W W' : World} (h : L2 w b2 b3 r b pe ce seen vs W) (hk : Ko W r W') (hi : IB r b.e ce seen' ce W') : L2 w b2 b3 r b pe ce seen' vs W' := by
  obtain ⟨Fo, Fi, em, cm, eo, co, ei, ci, h1, h2, h3⟩ := h.nw
  have l := h.lo
  have hr := h2 r (.inr (.inr (.inr rfl)))
  refine ⟨h.x2.blk (hk.block _ l.2.2.2.2.1), h.x3.blk (hk.block _ l.2.2.2.2.2.1), h.me.blk (hk.block _ l.2.2.2.2.2.2.1), hi, ⟨Fo, Fi, em, cm, eo, co, ei, ci, ⟨h1.mm.blk (hk.block _ (fun c => hr (.inl c.symm))), h1.mok, h1.get, h1.out.blk (fun g hg => hk.block g (fun c => hr (.inr (.inl (c ▸ hg))))) (Nat.le_of_eq hk.size.symm), h1.inn.blk (fun g hg => hk.block g (fun c => hr (.inr (.inr (c ▸ hg))))) (Nat.le_of_eq hk.size.symm), h1.sep, h1.nm⟩, h2, h3⟩, l, h.bel.trans (hk.below l.2.2.2.1)⟩
def NnPost (w : World) (es : List Ed) (e : Ending) (w' : World) : Prop := ∃ b pe ce vs Fo Fi em cm eo co ei ci, e = .returned (.agg (nwL b).toArray) ∧ MB MPE b.e pe ce w' ∧ Mok pe ce ∧ (∀ p, mget pe p = lastE es p) ∧ vs.Perm (evs pe) ∧ Nw w.heap.size b vs Fo Fi em cm eo co ei ci w' ∧ Below w.heap.size w w' ∧ w.heap.size ≤ b.e ∧ ∀ g, (g = b.m ∨ Fo g ∨ Fi g) → w.heap.size ≤ g
set_option maxRecDepth 100000 in
set_option maxHeartbeats 16000000 in
theorem newnet_any (la : Option Addr) (n lc : Nat) (es : List Ed) (hn : es.length = n) (hnb : n < 1000000000) (w : World) (hx : Lst EE w la es) : Calls Try.prog 25 #[.slice la n lc] w (NnPost w es) := by
  have HX : Hid (Lst EE w la es) := hx
  have HN : Hid (es.length = n) := hn
  have HNB1 : Hid (n < 1000000000) := hnb
  clear hx hn hnb
  go_enter Try.func25, Try.ntmps25
  go_wp2_with (refine list_newl NwK nz z_nw rfl rfl ?_)
  intro b2 w1 hb hs hbl
  have HB0 : Hid (w.heap.size = b2 ∧ b2 < w1.heap.size ∧ Below w.heap.size w w1) := ⟨hb.out, hs.out.lt, hbl.out⟩
  have HSb2 : Hid (SB NwK b2 nz w1) := hs.out
  clear hb hs hbl
  go_wp2_with (refine list_mnew MPE rfl rfl ?_)
  intro be w2 hb hs hbl
  have HB1 : Hid (w1.heap.size = be ∧ be < w2.heap.size ∧ Below w1.heap.size w1 w2) := ⟨hb.out, hs.out.lt, hbl.out⟩
  have HSbe : Hid (MB MPE be [] 0 w2) := hs.out
  replace HSb2 : Hid (SB NwK b2 nz w2) := HSb2.out.blk (hbl.out.block b2 HSb2.out.lt)
  clear hb hs hbl
  go_wp2_with (refine list_mnew MPI rfl rfl ?_)
  intro bm w3 hb hs hbl
  have HB2 : Hid (w2.heap.size = bm ∧ bm < w3.heap.size ∧ Below w2.heap.size w2 w3) := ⟨hb.out, hs.out.lt, hbl.out⟩
  have HSbm : Hid (MB MPI bm [] 0 w3) := hs.out
  replace HSb2 : Hid (SB NwK b2 nz w3) := HSb2.out.blk (hbl.out.block b2 HSb2.out.lt)
  replace HSbe : Hid (MB MPE be [] 0 w3) := HSbe.out.blk (hbl.out.block be HSbe.out.lt)
  clear hb hs hbl
  go_wp2_with (refine list_mnew MIS rfl rfl ?_)
  intro bo w4 hb hs hbl
  have HB3 : Hid (w3.heap.size = bo ∧ bo < w4.heap.size ∧ Below w3.heap.size w3 w4) := ⟨hb.out, hs.out.lt, hbl.out⟩
  have HSbo : Hid (MB MIS bo [] 0 w4) := hs.out
  replace HSb2 : Hid (SB NwK b2 nz w4) := HSb2.out.blk (hbl.out.block b2 HSb2.out.lt)
  replace HSbe : Hid (MB MPE be [] 0 w4) := HSbe.out.blk (hbl.out.block be HSbe.out.lt)
  replace HSbm : Hid (MB MPI bm [] 0 w4) := HSbm.out.blk (hbl.out.block bm HSbm.out.lt)
  clear hb hs hbl
  go_wp2_with (refine list_mnew MIS rfl rfl ?_)
  intro bi w5 hb hs hbl
  have HB4 : Hid (w4.heap.size = bi ∧ bi < w5.heap.size ∧ Below w4.heap.size w4 w5) := ⟨hb.out, hs.out.lt, hbl.out⟩
  have HSbi : Hid (MB MIS bi [] 0 w5) := hs.out
  replace HSb2 : Hid (SB NwK b2 nz w5) := HSb2.out.blk (hbl.out.block b2 HSb2.out.lt)
  replace HSbe : Hid (MB MPE be [] 0 w5) := HSbe.out.blk (hbl.out.block be HSbe.out.lt)
  replace HSbm : Hid (MB MPI bm [] 0 w5) := HSbm.out.blk (hbl.out.block bm HSbm.out.lt)
  replace HSbo : Hid (MB MIS bo [] 0 w5) := HSbo.out.blk (hbl.out.block bo HSbo.out.lt)
  clear hb hs hbl
  go_wp2_with (refine list_newl NwK nz z_nw rfl rfl ?_)
  intro b3 w6 hb hs hbl
  have HB5 : Hid (w5.heap.size = b3 ∧ b3 < w6.heap.size ∧ Below w5.heap.size w5 w6) := ⟨hb.out, hs.out.lt, hbl.out⟩
  have HSb3 : Hid (SB NwK b3 nz w6) := hs.out
  replace HSb2 : Hid (SB NwK b2 nz w6) := HSb2.out.blk (hbl.out.block b2 HSb2.out.lt)
  replace HSbe : Hid (MB MPE be [] 0 w6) := HSbe.out.blk (hbl.out.block be HSbe.out.lt)
  replace HSbm : Hid (MB MPI bm [] 0 w6) := HSbm.out.blk (hbl.out.block bm HSbm.out.lt)
  replace HSbo : Hid (MB MIS bo [] 0 w6) := HSbo.out.blk (hbl.out.block bo HSbo.out.lt)
  replace HSbi : Hid (MB MIS bi [] 0 w6) := HSbi.out.blk (hbl.out.block bi HSbi.out.lt)
  clear hb hs hbl
  obtain ⟨b, hbb⟩ : ∃ b : Nb, b = ⟨be, bm, bo, bi⟩ := ⟨_, rfl⟩
  have HORD : Hid (w.heap.size ≤ b2 ∧ b2 < be ∧ be < bm ∧ bm < bo ∧ bo < bi ∧ bi < b3) := by
    have h0 := HB0.out
    have h1 := HB1.out
    have h2 := HB2.out
    have h3 := HB3.out
    have h4 := HB4.out
    have h5 := HB5.out
    show _ ∧ _
    omega
  have HBW : Hid (Below w.heap.size w w6) := ((((HB0.out.2.2.trans (HB1.out.2.2.mono HB0.out.2.2.size)).trans (HB2.out.2.2.mono (by have h0 := HB0.out; have h1 := HB1.out; omega))).trans (HB3.out.2.2.mono (by have h0 := HB0.out; have h1 := HB1.out; have h2 := HB2.out; omega))).trans (HB4.out.2.2.mono (by have h0 := HB0.out; have h1 := HB1.out; have h2 := HB2.out; have h3 := HB3.out; omega))).trans (HB5.out.2.2.mono (by have h0 := HB0.out; have h1 := HB1.out; have h2 := HB2.out; have h3 := HB3.out; have h4 := HB4.out; omega))
  clear HB0 HB1 HB2 HB3 HB4 HB5
  go_wp2_with (refine list_sstore NwK rfl _ _ rfl (b := b3) (cs := nz) (cs' := [.map (some be), .map (some bm), .map (some bo), .map (some bi)]) rfl rfl HSb3.out rfl rfl rfl ?_)
  intro w7 hs7 hk7
  have HL1 : Hid (L1 w b2 b3 b es 0 w7) := by
    have o := HORD.out
    rw [hbb]
    exact ⟨HSb2.out.blk (hk7.out.block _ (by omega)), hs7.out, ⟨[], 0, HSbe.out.blk (hk7.out.block _ (by omega)), ⟨by simp, by simp, fun x hx => (by cases hx)⟩, fun p => rfl⟩, HSbm.out.blk (hk7.out.block _ (by omega)), HSbo.out.blk (hk7.out.block _ (by omega)), HSbi.out.blk (hk7.out.block _ (by omega)), o, HBW.out.trans (hk7.out.below (by omega))⟩
  clear hs7 hk7 HSb2 HSb3 HSbe HSbm HSbo HSbi HORD HBW hbb
  go_wp2_with fail
  go_loopw [15, 5] (fun iv _ wr => ∃ i : Nat, i ≤ n ∧ iv = .int .i64 (i : Int) ∧ L1 w b2 b3 b es i wr) (fun iv _ _ => n - (intOf iv).toNat)
  case atStart => exact ⟨0, by omega, rfl, HL1.out⟩
  case round =>
    obtain ⟨i, hi, rfl, hl⟩ := hrel
    obtain ⟨wz, hwz⟩ : ∃ y, wr = y := ⟨_, rfl⟩
    rw [hwz] at hl ⊢
    have HI : Hid (L1 w b2 b3 b es i wz) := hl
    clear hl hwz HL1
    by_cases hlt : i < n
    case pos =>
      have hii : (i : Int) < (n : Int) := by omega
      have ii0 : (0 : Int) ≤ (i : Int) := by omega
      have hib : (i : Int) < 1000000000 := by have := HNB1.out; omega
      obtain ⟨lb, lo, rfl, -, hce⟩ := (HX.out.bel HI.out.bel).cells i (by rw [HN.out]; exact hlt)
      obtain ⟨x, hx⟩ : ∃ y, es[i]'(by rw [HN.out]; exact hlt) = y := ⟨_, rfl⟩
      rw [hx] at hce
      have HCE : Hid (∀ j, j < EdK.k → wz.cell? ⟨lb, lo + i * 4 + j, none⟩ = (edL x)[j]?) := hce
      have HLN : Hid (∀ p, lastE (es.take (i + 1)) p = if vd x = true ∧ p = (x.f, x.l) then some x else lastE (es.take i) p) := fun p => by
        rw [← hx]
        exact last_next _ p
      clear hce hx
      go_wp2_with (first | (refine list_sat EdK rfl _ rfl (b := lb) (k := lo + i * 4) (cs := edL x) rfl HCE.out rfl ?_) | (refine list_newl EdK _ z_ed rfl rfl ?_))
      intro b5 w8 hb8 hs8 hbl8
      have HB8 : Hid (wz.heap.size ≤ b5 ∧ Below wz.heap.size wz w8) := ⟨by rw [hb8.out]; exact Nat.le_refl _, hbl8.out⟩
      have HS8 : Hid (SB EdK b5 (edL ⟨0, 0, 0, 0⟩) w8) := hs8.out
      have NB5 : Hid (wz.heap.size ≤ b5) := HB8.out.1
      clear hb8 hs8 hbl8 HCE
      go_wp2_with (refine list_sstore EdK rfl _ _ rfl (b := b5) (cs := edL ⟨0, 0, 0, 0⟩) (cs' := edL x) rfl rfl HS8.out rfl rfl rfl ?_)
      intro w9 hs9 hk9
      have HS9 : Hid (SB EdK b5 (edL x) w9) := hs9.out
      have HB9 : Hid (Below wz.heap.size wz w9) := HB8.out.2.trans (hk9.out.below HB8.out.1)
      clear hs9 hk9 HS8 HB8
      go_wp2_with (refine list_sload EdK rfl _ rfl (b := b5) (cs := edL x) rfl HS9.out rfl ?_)
      refine (valid_any x w9).mono ?_
      rintro e w10 ⟨rfl, hb10⟩
      have HS10 : Hid (SB EdK b5 (edL x) w10) := HS9.out.blk (hb10.block b5 HS9.out.lt)
      have HB10 : Hid (Below wz.heap.size wz w10) := HB9.out.trans (hb10.mono HB9.out.size)
      clear hb10 HS9 HB9
      cases hv : vd x
      case false =>
        have HG : Hid (L1 w b2 b3 b es (i + 1) w10) := (HI.out.nx HB10.out).same (fun p => by rw [HLN.out, hv, if_neg (fun c => by cases c.1)])
        clear hv
        go_wp2_with fail
        refine ⟨⟨i + 1, by omega, by simp, HG.out⟩, ?_⟩
        simp [intOf]
        have hz9 := HNB1.out
        omega
      have HV : Hid (vd x = true) := hv
      clear hv
      go_wp2_with fail
      obtain ⟨wd, hwd⟩ : ∃ y, w10.drew = y := ⟨_, rfl⟩
      have HWD : Hid (w10.drew = wd) := hwd
      have HBD : Hid (Below wz.heap.size wz wd) := by rw [← hwd]; exact HB10.out.trans ((drew_bel w10).mono HB10.out.size)
      have HID : Hid (L1 w b2 b3 b es i wd) := HI.out.nx HBD.out
      have HXD : Hid (SB NwK b3 (nwL b) wd ∧ SB EdK b5 (edL x) wd) := by
        rw [← hwd]
        exact ⟨by have := HID.out.x3; rw [← hwd] at this; exact this, HS10.out.blk ((drew_bel w10).block b5 HS10.out.lt)⟩
      have HNB : Hid (b5 ≠ b.e) := fun c => by
        obtain ⟨pe, ce, h1, -⟩ := HI.out.me
        have := h1.lt
        have := NB5.out
        omega
      clear hwd
      refine wp_region_held_drew (S := fun W => SB NwK b3 (nwL b) W ∧ SB EdK b5 (edL x) W) (by kernel_rfl) (by rw [HWD.out]; exact HXD.out) (fun hHeld => ?_)
      rw [HWD.out] at hHeld ⊢
      refine wpAnyH_take (i := 0) (v := .pointer (some ⟨b3, 0, none⟩)) rfl (by kernel_rfl) (by kernel_rfl) (by kernel_rfl) (fun _ _ _ h => h) (Or.inl ⟨by rfl, ?_⟩) (by assumption) ?_
      case refine_1 => intro W hSw; go_simp; try rfl
      try simp only [Act.put, List.getElem_toArray, List.getElem_cons_zero, List.getElem_cons_succ, List.setIfInBounds_toArray, List.set_cons_zero, List.set_cons_succ]
      refine wpAnyH_take (i := 1) (v := .map (some b.e)) rfl (by kernel_rfl) (by kernel_rfl) (by kernel_rfl) (fun _ _ _ h => h) (Or.inl ⟨by rfl, ?_⟩) (by assumption) ?_
      case refine_1 => intro W hSw; have k1 : W.cell? ⟨b3, 0, none⟩ = some (.map (some b.e)) := hSw.1.cell 0; go_simp; try rfl
      try simp only [Act.put, List.getElem_toArray, List.getElem_cons_zero, List.getElem_cons_succ, List.setIfInBounds_toArray, List.set_cons_zero, List.set_cons_succ]
      refine wpAnyH_take (i := 2) (v := .agg (edL x).toArray) rfl (by kernel_rfl) (by kernel_rfl) (by kernel_rfl) (fun _ _ _ h => h) (Or.inl ⟨by rfl, (fun W hSw => Go.Proofs.Ythhdpfgepjmgkaa.Ge.sload_run EdK (.tmp 5) rfl (b := b5) rfl hSw.2 rfl)⟩) (by assumption) ?_
      try simp only [Act.put, List.getElem_toArray, List.getElem_cons_zero, List.getElem_cons_succ, List.setIfInBounds_toArray, List.set_cons_zero, List.set_cons_succ]
      refine wpAnyH_take (i := 4) (v := .agg (edL x).toArray) rfl (by kernel_rfl) (by kernel_rfl) (by kernel_rfl) (fun _ _ _ h => h) (Or.inl ⟨by rfl, (fun W hSw => Go.Proofs.Ythhdpfgepjmgkaa.Ge.sload_run EdK (.tmp 5) rfl (b := b5) rfl hSw.2 rfl)⟩) (by assumption) ?_
      try simp only [Act.put, List.getElem_toArray, List.getElem_cons_zero, List.getElem_cons_succ, List.setIfInBounds_toArray, List.set_cons_zero, List.set_cons_succ]
      refine wpAnyH_ready (rs := [3]) (by kernel_rfl) (by simp) ?_
      refine AllReadyH.cons rfl (fun K hK => ?_) AllReadyH.nil
      go_simp
      refine (port_any x wd).mono ?_
      rintro e w11 ⟨rfl, hb11⟩
      refine hK.out _ _ ⟨hHeld.1.blk (hb11.block b3 hHeld.1.lt), hHeld.2.blk (hb11.block b5 hHeld.2.lt)⟩ (fun hHeld => ?_)
      have HI11 : Hid (L1 w b2 b3 b es i w11) := HID.out.nx hb11
      obtain ⟨pe, ce, hme, hok, hget⟩ := HI11.out.me
      have HME : Hid (MB MPE b.e pe ce w11) := hme
      have HOK : Hid (Mok pe ce ∧ ∀ p, mget pe p = lastE (es.take i) p) := ⟨hok, hget⟩
      clear hK K hb11 hme hok hget
      try simp only [Act.put, List.getElem_toArray, List.getElem_cons_zero, List.getElem_cons_succ, List.setIfInBounds_toArray, List.set_cons_zero, List.set_cons_succ]
      refine wpAnyH_ready (rs := [5]) (by kernel_rfl) (by simp) ?_
      refine AllReadyH.cons rfl (fun K hK => ?_) AllReadyH.nil
      refine put_step MPE (.tmp 22) (.tmp 24) (.tmp 25) rfl (k := (x.f, x.l)) (u := x) rfl rfl rfl HME.out rfl (fun w12 hm12 hk12 => ?_)
      have HG : Hid (L1 w b2 b3 b es (i + 1) w12) := HI11.out.put hk12.out ⟨_, _, hm12.out, mput_ok HOK.out.1 _ _, fun p => by
        rw [mput_get, HLN.out, HOK.out.2 p]
        by_cases c : p = (x.f, x.l)
        · rw [if_pos c, if_pos ⟨HV.out, c⟩]
        · rw [if_neg c, if_neg (fun d => c d.2)]⟩
      refine hK.out _ _ ⟨HG.out.x3, hHeld.2.blk (hk12.out.block b5 HNB.out)⟩ (fun hHeld => ?_)
      clear hK K hm12 hk12
      refine wpAnyH_done (by kernel_rfl) ?_ _
      clear hHeld
      go_wp2_with fail
      refine ⟨⟨i + 1, by omega, by simp, HG.out⟩, ?_⟩
      simp [intOf]
      have hz9 := HNB1.out
      omega
    have hii : ¬ (i : Int) < (n : Int) := by omega
    have hin : i = n := by omega
    subst hin
    obtain ⟨pe, ce, hme, hok, hget⟩ := HI.out.me
    have HPE : Hid (MB MPE b.e pe ce wz ∧ Mok pe ce ∧ ∀ p, mget pe p = lastE es p) := ⟨hme, hok, fun p => by rw [hget p, List.take_of_length_le (by rw [HN.out]; exact Nat.le_refl _)]⟩
    have c30 : wz.cell? ⟨b3, 0, none⟩ = some (.map (some b.e)) := HI.out.x3.cell 0
    clear hme hok hget
    go_wp2_with (refine list_range MPE rfl _ rfl (b := b.e) (es := pe) (c := ce) rfl HPE.out.1 ?_)
    intro r w8 hr hib hb8
    have HL2 : Hid (L2 w b2 b3 r b pe ce #[] [] w8) := by
      have hI8 := HI.out.nx hb8.out
      have o := hI8.ord
      have hr2 := hr.out
      have e3 := HI.out.x3.lt
      have hmm := hI8.mm
      refine ⟨hI8.x2, hI8.x3, HPE.out.1.blk (hb8.out.block _ HPE.out.1.lt), hib.out, ⟨fun g => g = b.o, fun g => g = b.i, [], 0, [], 0, [], 0, ⟨hmm, ⟨by simp, by simp, fun x hx => (by cases hx)⟩, fun p => rfl, ⟨hI8.mo, ⟨by simp, by simp, fun x hx => (by cases hx)⟩, fun k => OwnL.nil _ _ _, rfl, fun k g e => (by cases e), fun k1 k2 g _ e => (by cases e), fun g e => (by subst e; exact hI8.mo.lt)⟩, ⟨hI8.mi, ⟨by simp, by simp, fun x hx => (by cases hx)⟩, fun k => OwnL.nil _ _ _, rfl, fun k g e => (by cases e), fun k1 k2 g _ e => (by cases e), fun g e => (by subst e; exact hI8.mi.lt)⟩, fun g e1 e2 => (by omega), ⟨by omega, by omega⟩⟩, fun g e1 e2 => (by omega), fun g e => (by omega)⟩, by omega, hI8.bel⟩
    clear hr hib hb8 c30 HI
    go_wp2_with fail
    go_loopw [7] (fun _ wr => ∃ seen vs rs, L2 w b2 b3 r b pe ce seen vs wr ∧ Rg pe seen vs rs) (fun _ wr => pe.length - sn wr r)
    case atStart => exact ⟨#[], [], pe, HL2.out, Rg.nil pe⟩
    case round =>
      obtain ⟨seen, vs, rs, hl2, hrg⟩ := hrel
      obtain ⟨wy, hwy⟩ : ∃ y, wr = y := ⟨_, rfl⟩
      rw [hwy] at hl2 ⊢
      have HI : Hid (L2 w b2 b3 r b pe ce seen vs wy) := hl2
      have HRG : Hid (Rg pe seen vs rs) := hrg
      have HSN : Hid (sn wy r = seen.size) := sn_of hl2.it
      clear hl2 hrg hwy HL2
      go_wp2_with (refine list_next MPE rfl _ rfl (r := r) (b := b.e) (since := ce) (c0 := ce) (c := ce) (seen := seen) (es := pe) rfl HI.out.it HI.out.me HPE.out.2.1.lt (Nat.le_refl _) ?_ ?_)
      case' refine_1 =>
        intro hall
        obtain ⟨Fo, Fi, em, cm, eo, co, ei, ci, hnw, hap, hlo⟩ := HI.out.nw
        have hpm := HRG.out.done HPE.out.2.1 hall.out
        have HQ : Hid (NnPost w es (.returned (.agg (nwL b).toArray)) wy) := ⟨b, pe, ce, evs vs, Fo, Fi, em, cm, eo, co, ei, ci, rfl, HI.out.me, HPE.out.2.1, HPE.out.2.2, hpm.map _, hnw, HI.out.bel, HI.out.lo.2.2.1, hlo⟩
        have HX23 : Hid (SB NwK b2 nz wy ∧ SB NwK b3 (nwL b) wy) := ⟨HI.out.x2, HI.out.x3⟩
        have HQK : Hid (∀ w', Ko wy b2 w' → NnPost w es (.returned (.agg (nwL b).toArray)) w') := fun w' hk => by
          have l := HI.out.lo
          have h2 := hap b2 (.inl rfl)
          exact ⟨b, pe, ce, evs vs, Fo, Fi, em, cm, eo, co, ei, ci, rfl, HI.out.me.blk (hk.block _ (fun c => by have := HI.out.me; have h9 := HI.out.x2; rw [c] at this; unfold MB at this; unfold SB at h9; rw [h9] at this; cases this)), HPE.out.2.1, HPE.out.2.2, hpm.map _, ⟨hnw.mm.blk (hk.block _ (fun c => h2 (.inl c.symm))), hnw.mok, hnw.get, hnw.out.blk (fun g hg => hk.block g (fun c => h2 (.inr (.inl (c ▸ hg))))) (Nat.le_of_eq hk.size.symm), hnw.inn.blk (fun g hg => hk.block g (fun c => h2 (.inr (.inr (c ▸ hg))))) (Nat.le_of_eq hk.size.symm), hnw.sep, hnw.nm⟩, HI.out.bel.trans (hk.below l.1), l.2.2.1, hlo⟩
        clear hall hnw hap hlo hpm HI HRG HSN HPE HQ
        go_wp2_with (first | (refine list_sload NwK rfl _ rfl (b := b3) (cs := nwL b) rfl HX23.out.2 rfl ?_) | (refine list_sstore NwK rfl _ _ rfl (b := b2) (cs := nz) (cs' := nwL b) rfl rfl HX23.out.1 rfl rfl rfl ?_))
        intro w9 hs9 hk9
        have HS9 : Hid (SB NwK b2 (nwL b) w9 ∧ NnPost w es (.returned (.agg (nwL b).toArray)) w9) := ⟨hs9.out, HQK.out w9 hk9.out⟩
        clear hs9 hk9 HX23 HQK
        go_wp2_with fail
        exact ret_cell NwK rfl rfl HS9.out.1 rfl rfl HS9.out.2
      case' refine_2 =>
        intro xe w9 hx hib9 hk9
        obtain ⟨x⟩ := xe
        dsimp only at hx hib9 ⊢
        have HXM : Hid (x ∈ pe ∧ x.2.2 ∉ seen) := hx.out
        have HI9 : Hid (L2 w b2 b3 r b pe ce (seen.push x.2.2) vs w9) := HI.out.turn hk9.out hib9.out
        obtain ⟨rs', hrg'⟩ := HRG.out.step hx.out.1 hx.out.2
        have HRG2 : Hid (Rg pe (seen.push x.2.2) (vs ++ [x]) rs') := hrg'
        have HLT : Hid (seen.size < pe.length) := HRG.out.lt hx.out.1 hx.out.2
        have HPL : Hid (vs.length < 1000000000) := by
          have h1 := HRG.out.perm.length_eq
          rw [List.length_append] at h1
          have h2 := ents_le HPE.out.2.1 HPE.out.2.2
          have h3 := HN.out
          have h4 := HNB1.out
          show _ < _
          omega
        obtain ⟨⟨p1, p2⟩, x, st⟩ := x
        clear hx hib9 hk9 hrg' HI HRG
        go_wp2_with (first | (refine list_entry MPE rfl _ rfl (r := r) (b := b.e) (since := ce) (c := ce) (seen := seen) (es := pe) (y := ((p1, p2), x, st)) rfl HI9.out.it HI9.out.me HXM.out.1 HPE.out.2.1.nb ?_) | (refine list_newl EdK _ z_ed rfl rfl ?_))
        intro b7 w10 hb10 hs10 hbl10
        have HI10 : Hid (L2 w b2 b3 r b pe ce (seen.push st) vs w10) := HI9.out.nx hbl10.out
        have HS10 : Hid (SB EdK b7 (edL ⟨0, 0, 0, 0⟩) w10) := hs10.out
        have HB10 : Hid (w9.heap.size ≤ b7 ∧ Below w9.heap.size w9 w10) := ⟨by rw [hb10.out]; exact Nat.le_refl _, hbl10.out⟩
        clear hb10 hs10 hbl10
        go_wp2_with (refine list_sstore EdK rfl _ _ rfl (b := b7) (cs := edL ⟨0, 0, 0, 0⟩) (cs' := edL x) rfl rfl HS10.out rfl rfl rfl ?_)
        intro w11 hs11 hk11
        have HB11 : Hid (Below w9.heap.size w9 w11) := HB10.out.2.trans (hk11.out.below HB10.out.1)
        have HS11 : Hid (SB EdK b7 (edL x) w11) := hs11.out
        have HI11 : Hid (L2 w b2 b3 r b pe ce (seen.push st) vs w11) := HI9.out.nx HB11.out
        clear hs11 hk11 HS10 HI10 HB10 HI9 HB11
        go_wp2_with (first | (refine list_sload NwK rfl _ rfl (b := b3) (cs := nwL b) rfl HI11.out.x3 rfl ?_) | (refine list_sload EdK rfl _ rfl (b := b7) (cs := edL x) rfl HS11.out rfl ?_))
        obtain ⟨Fo, Fi, em, cm, eo, co, ei, ci, hnw, hap, hlo⟩ := HI11.out.nw
        refine (enter_any w.heap.size b (evs vs) x Fo Fi em cm eo co ei ci w11 HI11.out.bel.size (by have h1 := HPL.out; show (vs.map _).length < _; rw [List.length_map]; omega) hnw).mono ?_
        rintro e w12 ⟨rfl, Fo', Fi', em', cm', eo', co', ei', ci', hnw', hkf, hfo, hfi⟩
        have HG : Hid ((∃ seen vs rs, L2 w b2 b3 r b pe ce seen vs w12 ∧ Rg pe seen vs rs) ∧ pe.length - sn w12 r < pe.length - sn wy r) := by
          have l := HI11.out.lo
          have k2 := hkf.blk b2 HI11.out.x2.lt (hap b2 (.inl rfl))
          have k3 := hkf.blk b3 HI11.out.x3.lt (hap b3 (.inr (.inl rfl)))
          have ke := hkf.blk b.e HI11.out.me.lt (hap b.e (.inr (.inr (.inl rfl))))
          have kr := hkf.blk r HI11.out.it.lt (hap r (.inr (.inr (.inr rfl))))
          have hit := HI11.out.it.blk kr
          refine ⟨⟨seen.push st, vs ++ [((p1, p2), x, st)], rs', ⟨HI11.out.x2.blk k2, HI11.out.x3.blk k3, HI11.out.me.blk ke, hit, ⟨Fo', Fi', em', cm', eo', co', ei', ci', by rw [show evs (vs ++ [((p1, p2), x, st)]) = evs vs ++ [x] by unfold evs; rw [List.map_append]; rfl]; exact hnw', fun g hg c => ?_, fun g hg => ?_⟩, l, HI11.out.bel.trans (hkf.below HI11.out.bel.size (fun g hg => hlo g hg))⟩, HRG2.out⟩, ?_⟩
          · have hgl : g < w11.heap.size := by
              rcases hg with rfl | rfl | rfl | rfl
              · exact HI11.out.x2.lt
              · exact HI11.out.x3.lt
              · exact HI11.out.me.lt
              · exact HI11.out.it.lt
            refine hap g hg ?_
            rcases c with c | c | c
            · exact .inl c
            · rcases hfo g c with d | d
              · exact .inr (.inl d)
              · omega
            · rcases hfi g c with d | d
              · exact .inr (.inr d)
              · omega
          · have hz := HI11.out.bel.size
            rcases hg with c | c | c
            · exact hlo g (.inl c)
            · rcases hfo g c with d | d
              · exact hlo g (.inr (.inl d))
              · omega
            · rcases hfi g c with d | d
              · exact hlo g (.inr (.inr d))
              · omega
          · rw [sn_of hit, HSN.out, Array.size_push]
            have := HLT.out
            omega
        clear hnw hap hlo hnw' hkf hfo hfi HI11 HS11
        go_wp2_with fail
        exact HG.out
end Go.Proofs.Ythhdpfgepjmgkaa.Dj
