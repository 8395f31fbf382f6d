/- Grow: the tree of these edges, from the root. -/
import Derived.Test.YthhdpfgepjmgkaaDkA
namespace Go.Proofs.Ythhdpfgepjmgkaa.Dj
open Go.ChangeShapes Go.WideShapes Go.ChangeAt Go.RowKit Go.Joins Go.Deep Go.Proofs.Ythhdpfgepjmgkaa.Ge
set_option linter.unusedVariables false
set_option linter.unusedSimpArgs false

theorem lastE_some {es : List Ed} {p : Pt} {e : Ed} (h : lastE es p = some e) : e ∈ es ∧ vd e = true ∧ (e.f, e.l) = p := by
  unfold lastE at h
  have h1 := List.mem_of_getLast? h
  rw [List.mem_filter] at h1
  simp only [Bool.and_eq_true, decide_eq_true_eq] at h1
  exact ⟨h1.1, h1.2.1, h1.2.2⟩
theorem evs_mem {es : List Ed} {pe : Ents Pt Ed} {ce : Nat} (hok : Mok pe ce) (hg : ∀ p, mget pe p = lastE es p) (e : Ed) : e ∈ evs pe ↔ lastE es (e.f, e.l) = some e := by
  refine ⟨fun h => ?_, fun h => ?_⟩
  · obtain ⟨x, hx, rfl⟩ := List.mem_map.1 h
    have h1 := mget_of_mem hok hx
    rw [hg] at h1
    rw [(lastE_some h1).2.2]
    exact h1
  · rw [← hg] at h
    obtain ⟨x, hx, h1, h2⟩ := mem_of_mget h
    exact List.mem_map.2 ⟨x, hx, h2⟩
/-- what Grow leaves: a tree, and in it who is reached -/
def GwPost (w : World) (es : List Ed) (root : Int) (e : Ending) (w' : World) : Prop := ∃ tb kb b vs f k F, e = .returned (.pointer (some ⟨tb, 0, none⟩)) ∧ SB TrK tb (trL b root kb) w' ∧ Kn kb f k F w' ∧ Below w.heap.size w w' ∧ w.heap.size ≤ tb ∧ w.heap.size ≤ kb ∧ (∀ g, F g → w.heap.size ≤ g) ∧ FOk f (es.map (·.l)) ∧ k ≤ 1 + es.length ∧ (∀ e, e ∈ vs ↔ lastE es (e.f, e.l) = some e) ∧ Okv vs ∧ (∀ v d ls, f v = some (d, ls) → Told vs root v d ls) ∧ ∀ v p, isP vs root p v → f v ≠ none
set_option maxRecDepth 100000 in
set_option maxHeartbeats 16000000 in
theorem grow_any (la : Option Addr) (n lc : Nat) (es : List Ed) (root : Int) (w : World) (hn : es.length = n) (hnb : n < 99999999) (hx : Lst EE w la es) : Calls Try.prog 18 #[.slice la n lc, .int .i64 root] w (GwPost w es root) := by
  have HX : Hid (Lst EE w la es ∧ es.length = n ∧ n < 99999999) := ⟨hx, hn, hnb⟩
  clear hx hn hnb
  go_enter Try.func18, Try.ntmps18
  go_wp2_with fail
  refine (newnet_any la n lc es HX.out.2.1 (by have := HX.out.2.2; omega) w HX.out.1).mono ?_
  rintro e w1 ⟨b, pe, ce, vs, Fo, Fi, em, cm, eo, co, ei, ci, rfl, hpe, hok, hg, hp, hnw, hb1, -, -⟩
  have HNW : Hid (Nw w.heap.size b vs Fo Fi em cm eo co ei ci w1 ∧ Below w.heap.size w w1) := ⟨hnw, hb1⟩
  have HVS : Hid (∀ e, e ∈ vs ↔ lastE es (e.f, e.l) = some e) := fun e => by rw [hp.mem_iff]; exact evs_mem hok hg e
  have HVL : Hid (vs.length ≤ es.length) := by
    have h1 := ents_le hok hg
    have h2 := hp.length_eq
    unfold evs at h2
    rw [List.length_map] at h2
    show _ ≤ _
    omega
  have HOE : Hid (∀ e ∈ vs, 1 ≤ e.c ∧ e.c ≤ 65535 ∧ e.l ∈ es.map (·.l)) := fun e he => by
    obtain ⟨h1, h2, -⟩ := lastE_some ((HVS.out e).1 he)
    unfold vd inr at h2
    simp only [Bool.and_eq_true, decide_eq_true_eq] at h2
    exact ⟨by omega, by omega, List.mem_map.2 ⟨e, h1, rfl⟩⟩
  clear hpe hok hg hp hnw hb1
  rw [show (nwL b).toArray = #[.map (some b.e), .map (some b.m), .map (some b.o), .map (some b.i)] from rfl]
  go_wp2_with (refine list_mnew MIR rfl rfl ?_)
  intro kb w2 hb2 hm2 hbl2
  have HK2 : Hid (w1.heap.size = kb ∧ MB MIR kb [] 0 w2 ∧ Below w1.heap.size w1 w2) := ⟨hb2.out, hm2.out, hbl2.out⟩
  clear hb2 hm2 hbl2
  go_wp2_with (refine list_boxl TrK rfl _ rfl (cs := trL b root kb) rfl ?_)
  intro tb w3 hb3 hs3 hbl3
  have HT3 : Hid (SB TrK tb (trL b root kb) w3 ∧ tb ≠ kb ∧ MB MIR kb [] 0 w3 ∧ Below w1.heap.size w1 w3 ∧ w1.heap.size ≤ tb) := by
    have h1 := HK2.out.2.1.lt
    have h2 := hb3.out
    have h3 := HK2.out.2.2.size
    exact ⟨hs3.out, by omega, HK2.out.2.1.blk (hbl3.out.block kb h1), HK2.out.2.2.trans (hbl3.out.mono h3), by omega⟩
  clear hb3 hs3 hbl3
  go_wp2_with (refine list_ibuild rfl _ rfl (m := root) rfl ?_)
  intro b4 w4 hb4 hl4 hbl4
  have HT4 : Hid (SB TrK tb (trL b root kb) w4 ∧ MB MIR kb [] 0 w4 ∧ Below w1.heap.size w1 w4 ∧ Lst EI w4 (some ⟨b4, 0, none⟩) [root] ∧ b4 ≠ kb) := by
    have h1 := HT3.out.2.2.1.lt
    have h2 := hb4.out
    have h3 := HT3.out.2.2.2.1.size
    exact ⟨HT3.out.1.blk (hbl4.out.block tb HT3.out.1.lt), HT3.out.2.2.1.blk (hbl4.out.block kb h1), HT3.out.2.2.2.1.trans (hbl4.out.mono h3), hl4.out, by omega⟩
  clear hb4 hl4 hbl4
  go_wp2_with fail
  refine (settle_any w1 w.heap.size Fo Fi em cm eo co ei ci w1.heap.size b vs root tb kb (es.map (·.l)) (some ⟨b4, 0, none⟩) 1 w4 rfl HNW.out.1 HT4.out.2.2.1 HT4.out.1 HT4.out.2.1 ⟨Nat.le_of_eq HK2.out.1, fun c => HT3.out.2.1 c.symm⟩ HT4.out.2.2.2.1 (fun b o e => by cases e; exact HT4.out.2.2.2.2) ⟨fun e he => ⟨(HOE.out e he).1, (HOE.out e he).2.1⟩⟩ HOE.out (by rw [List.length_map]; have := HX.out; omega) (by have h1 := HX.out; have h2 := HVL.out; omega)).mono ?_
  rintro e w5 ⟨v, f, k, F, rfl, hkn, hkf, hfo, hF, htd, hre⟩
  have HE : Hid (GwPost w es root (.returned (.pointer (some ⟨tb, 0, none⟩))) w5) := by
    have h0 := HK2.out.1
    have h1 := HNW.out.2.size
    have h2 := HT4.out.2.2.1.size
    have h3 := HT3.out.2.2.2.2
    have hov : Okv vs := ⟨fun e he => ⟨(HOE.out e he).1, (HOE.out e he).2.1⟩⟩
    refine ⟨tb, kb, b, vs, f, k, F, rfl, HT4.out.1.blk (hkf.blk tb HT4.out.1.lt HT3.out.2.1), hkn, (HNW.out.2.trans (HT4.out.2.2.1.mono h1)).trans (hkf.below (by omega) (fun g hg => by omega)), by omega, by omega, fun g hg => by have := hF g hg; omega, hfo, ?_, HVS.out, hov, htd, hre⟩
    have h4 := hkn.many (vs := vs) (r := root) (fun n hn => by
      cases hf : f n with
      | none => exact absurd hf hn
      | some p =>
        obtain ⟨d, ls⟩ := p
        obtain ⟨⟨q, hq, -⟩, -⟩ := (htd n d ls hf).sh
        exact isP_end q _ _ hq)
    have h5 := HVL.out
    omega
  clear hkn hkf hfo hF htd hre
  go_wp2_with fail
  go_ret
  exact HE.out
end Go.Proofs.Ythhdpfgepjmgkaa.Dj
