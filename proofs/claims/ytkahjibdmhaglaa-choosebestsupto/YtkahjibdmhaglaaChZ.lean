/- Whatever the order in which offers stand, where each has a peer of its own Order leaves the same ones: plain. -/
import Derived.Test.YtkahjibdmhaglaaChS
import Derived.Sort.Lot0
namespace Go.Proofs.Ytkahjibdmhaglaa.Ch
open Go.ChangeShapes Go.WideShapes Go.ChangeAt Go.RowKit Go.Joins Go.Deep Go.Proofs.Ytkahjibdmhaglaa.Ge
set_option linter.unusedVariables false
set_option linter.unusedSimpArgs false

theorem Cond.uniq {xs : List (Of × Oa)} {R : Nat → Prop} {b c : Nat} (h : Cond xs R b) (h2 : Cond xs R c) : b = c := by
  have hE := cm_early (xs := xs)
  have e1 := h.early c h2.mem
  have e2 := h2.early b h.mem
  have a1 := hE.anti b c
  have a2 := hE.anti c b
  have e0 : earlyP xs b c = 0 := by omega
  have e0' : earlyP xs c b = 0 := hE.zero e0
  have l1 := h2.late b h.mem e0 (fun k hk h3 h4 => h.med k hk h3 h4)
  have l2 := h.late c h2.mem e0' (fun k hk h3 h4 => h2.med k hk h3 h4)
  have l3 := (cm_late (xs := xs)).le.2 l2
  exact late_strict (xs := xs) (by omega)
/-- xb's offers are xa's, turned: the offer at j is that at f j; each has a peer of its own -/
structure Pm (xa xb : List (Of × Oa)) (n : Nat) (f : Nat → Nat) : Prop where
  lt : ∀ j, j < n → f j < n
  eq : ∀ j, j < n → atO xb j = atO xa (f j)
  inj : ∀ j k, j < n → k < n → f j = f k → j = k
  onto : ∀ i, i < n → ∃ j, j < n ∧ f j = i
  peer : ∀ j k, j < n → k < n → (atO xb j).peer = (atO xb k).peer → j = k
theorem cmpA_peer {x y : Of} (h : x.peer ≠ y.peer) : cmpA [3, 4, 5, 6, 7] x y ≠ 0 := by
  intro h0
  have a7 : stp 7 x y ≠ 0 := fun e => h ((cmp3_iff x.peer y.peer).2.1.1 e)
  rw [cmpA_cons] at h0
  by_cases c3 : stp 3 x y = 0
  · rw [if_neg (by omega), cmpA_cons] at h0
    by_cases c4 : stp 4 x y = 0
    · rw [if_neg (by omega), cmpA_cons] at h0
      by_cases c5 : stp 5 x y = 0
      · rw [if_neg (by omega), cmpA_cons] at h0
        by_cases c6 : stp 6 x y = 0
        · rw [if_neg (by omega), cmpA_cons, if_pos a7] at h0
          exact a7 h0
        · rw [if_pos c6] at h0; exact c6 h0
      · rw [if_pos c5] at h0; exact c5 h0
    · rw [if_pos c4] at h0; exact c4 h0
  · rw [if_pos c3] at h0; exact c3 h0
theorem Pm.late {xa xb : List (Of × Oa)} {n : Nat} {f : Nat → Nat} (h : Pm xa xb n f) {j k : Nat} (hj : j < n) (hk : k < n) : lateP xa (f j) (f k) = lateP xb j k := by
  by_cases e : j = k
  · subst e
    rw [cm_late.refl, cm_late.refl]
  · have hp : (atO xb j).peer ≠ (atO xb k).peer := fun e2 => e (h.peer j k hj hk e2)
    have hc := cmpA_peer hp
    rw [late_two, late_two, ← h.eq j hj, ← h.eq k hk, if_pos hc, if_pos hc]
theorem Pm.early {xa xb : List (Of × Oa)} {n : Nat} {f : Nat → Nat} (h : Pm xa xb n f) {j k : Nat} (hj : j < n) (hk : k < n) : earlyP xa (f j) (f k) = earlyP xb j k ∧ nbrP xa (f j) (f k) = nbrP xb j k ∧ medP xa (f j) (f k) = medP xb j k := by
  unfold earlyP nbrP medP
  rw [← h.eq j hj, ← h.eq k hk]
  exact ⟨rfl, rfl, rfl⟩
theorem Pm.cond {xa xb : List (Of × Oa)} {n : Nat} {f : Nat → Nat} (h : Pm xa xb n f) {Ra Rb : Nat → Prop} {b : Nat} (hR : ∀ i, Ra i ↔ ∃ j, Rb j ∧ f j = i) (hb : ∀ j, Rb j → j < n) (hc : Cond xb Rb b) : Cond xa Ra (f b) := by
  have hbn := hb b hc.mem
  refine ⟨(hR _).2 ⟨b, hc.mem, rfl⟩, fun i hi => ?_, fun i hi he hn => ?_, fun i hi he hm => ?_⟩
  · obtain ⟨j, hj, rfl⟩ := (hR i).1 hi
    rw [(h.early (hb j hj) hbn).1]
    exact hc.early j hj
  · obtain ⟨j, hj, rfl⟩ := (hR i).1 hi
    obtain ⟨e1, e2, e3⟩ := h.early (hb j hj) hbn
    rw [e1] at he
    rw [e2] at hn
    rw [e3]
    exact hc.med j hj he hn
  · obtain ⟨j, hj, rfl⟩ := (hR i).1 hi
    obtain ⟨e1, e2, e3⟩ := h.early (hb j hj) hbn
    rw [e1] at he
    rw [h.late (hb j hj) hbn]
    refine hc.late j hj he (fun k hk k1 k2 => ?_)
    obtain ⟨u1, u2, u3⟩ := h.early (hb k hk) (hb j hj)
    have := hm (f k) ((hR _).2 ⟨k, hk, rfl⟩) (by rw [u1]; exact k1) (by rw [u2]; exact k2)
    rw [u3] at this
    exact this
theorem mem_rch {X : Nat → Of} {n i : Nat} : i ∈ rchP X n ↔ i < n ∧ 0 ≤ (X i).cost := by
  unfold rchP
  rw [List.mem_filter, List.mem_range]
  simp
theorem rch_nd (X : Nat → Of) (n : Nat) : (rchP X n).Nodup := List.nodup_range.sublist List.filter_sublist
theorem OrdR.perm {xs : List (Of × Oa)} {n : Nat} {ps : List Nat} (h : OrdR xs n ps) : ps.Perm (rchP (atO xs) n) := by
  obtain ⟨p1, h1, -, h2, -⟩ := h
  exact h2.trans h1
theorem same_order {xa xb : List (Of × Oa)} {n : Nat} {f : Nat → Nat} (h : Pm xa xb n f) {pa pb : List Nat} (ha : OrdR xa n pa) (hb : OrdR xb n pb) : pa = pb.map f := by
  have hbn : ∀ j ∈ pb, j < n := fun j hj => (mem_rch.1 (hb.perm.mem_iff.1 hj)).1
  have hnda : pa.Nodup := ha.perm.nodup_iff.2 (rch_nd _ _)
  have hndb : pb.Nodup := hb.perm.nodup_iff.2 (rch_nd _ _)
  have hndm : (pb.map f).Nodup := by
    rw [List.nodup_iff_pairwise_ne, List.pairwise_map]
    refine (List.nodup_iff_pairwise_ne.1 hndb).imp_of_mem (fun {x y} hx hy hne e => hne (h.inj x y (hbn x hx) (hbn y hy) e))
  have hP : (pb.map f).Perm pa := by
    rw [List.perm_ext_iff_of_nodup hndm hnda]
    intro i
    rw [List.mem_map, ha.perm.mem_iff, mem_rch]
    constructor
    · rintro ⟨j, hj, rfl⟩
      have h1 := mem_rch.1 (hb.perm.mem_iff.1 hj)
      rw [h.eq j h1.1] at h1
      exact ⟨h.lt j h1.1, h1.2⟩
    · rintro ⟨hi, hc⟩
      obtain ⟨j, hj, rfl⟩ := h.onto i hi
      exact ⟨j, hb.perm.mem_iff.2 (mem_rch.2 ⟨hj, by rw [h.eq j hj]; exact hc⟩), rfl⟩
  suffices H : ∀ (sb sa ea eb : List Nat), pa = ea ++ sa → pb = eb ++ sb → (sb.map f).Perm sa → sa = sb.map f from H pb pa [] [] rfl rfl hP
  intro sb
  induction sb with
  | nil =>
    intro sa ea eb h1 h2 h3
    exact List.Perm.nil_eq h3 ▸ rfl
  | cons b sb ih =>
    intro sa ea eb h1 h2 h3
    cases sa with
    | nil => have := h3.length_eq; simp at this
    | cons a sa =>
      have ca := ord_cond (rch_nd _ _) (h1 ▸ ha)
      have cb := ord_cond (rch_nd _ _) (h2 ▸ hb)
      have cf := h.cond (Ra := (· ∈ a :: sa)) (fun i => by
        rw [← h3.mem_iff, List.mem_map]) (fun j hj => hbn j (by rw [h2]; exact List.mem_append_right _ hj)) cb
      have e := ca.uniq cf
      subst e
      have h4 : (sb.map f).Perm sa := (List.perm_cons _).1 h3
      rw [ih sa (ea ++ [f b]) (eb ++ [b]) (by rw [h1]; simp) (by rw [h2]; simp) h4]
      rfl
theorem ord_first {xs : List (Of × Oa)} {n : Nat} {ps : List Nat} (h : OrdR xs n ps) : bsP (atO xs) (rchP (atO xs) n) = ps.head? := by
  cases ps with
  | nil =>
    have h1 : rchP (atO xs) n = [] := h.perm.symm.eq_nil
    rw [h1]
    rfl
  | cons b suf =>
    have c := ord_cond (pre := []) (rch_nd _ _) h
    have c2 : Cond xs (· ∈ rchP (atO xs) n) b := by
      have e : (fun x => x ∈ b :: suf) = (fun x => x ∈ rchP (atO xs) n) := by
        funext x
        exact propext h.perm.mem_iff
      rw [← e]
      exact c
    exact cond_bs (List.pairwise_lt_range.sublist List.filter_sublist) c2
/-- the offers of xb are those of xa, in whatever order; in xa each has its place for a peer -/
theorem pm_of {xa xb : List (Of × Oa)} {n : Nat} (hn : xa.length = n) (hp : (xb.map Prod.fst).Perm (xa.map Prod.fst)) (hpeer : ∀ i, i < n → (atO xa i).peer = (i : Int)) : Pm xa xb n (fun j => (atO xb j).peer.toNat) ∧ (∀ j, j < n → ((atO xb j).peer.toNat : Int) = (atO xb j).peer) := by
  have hlb : xb.length = n := by
    have := hp.length_eq
    simpa [hn] using this
  have hmem : ∀ j, j < n → ∃ i, i < n ∧ atO xb j = atO xa i := fun j hj => by
    have h1 : xb[j].1 ∈ xb.map Prod.fst := List.mem_map.2 ⟨_, List.getElem_mem (by omega), rfl⟩
    obtain ⟨q, hq, e⟩ := List.mem_map.1 (hp.mem_iff.1 h1)
    obtain ⟨i, hi, e2⟩ := List.getElem_of_mem hq
    refine ⟨i, by omega, ?_⟩
    rw [atO_is (by omega), atO_is hi, e2, e]
  have hmem2 : ∀ i, i < n → ∃ j, j < n ∧ atO xb j = atO xa i := fun i hi => by
    have h1 : xa[i].1 ∈ xa.map Prod.fst := List.mem_map.2 ⟨_, List.getElem_mem (by omega), rfl⟩
    obtain ⟨q, hq, e⟩ := List.mem_map.1 (hp.mem_iff.2 h1)
    obtain ⟨j, hj, e2⟩ := List.getElem_of_mem hq
    refine ⟨j, by omega, ?_⟩
    rw [atO_is hj, atO_is (show i < xa.length by omega), e2, e]
  have hat : ∀ j, j < n → (atO xb j).peer.toNat < n ∧ atO xb j = atO xa (atO xb j).peer.toNat ∧ (((atO xb j).peer.toNat : Nat) : Int) = (atO xb j).peer := fun j hj => by
    obtain ⟨i, hi, e⟩ := hmem j hj
    have e1 : (atO xb j).peer = (i : Int) := by rw [e]; exact hpeer i hi
    have e2 : (atO xb j).peer.toNat = i := by rw [e1]; rfl
    rw [e2, e1]
    exact ⟨hi, e, rfl⟩
  have hnda : (xa.map Prod.fst).Nodup := by
    rw [List.nodup_iff_pairwise_ne, List.pairwise_iff_getElem]
    intro i k hi hk hik e
    rw [List.length_map] at hi hk
    rw [List.getElem_map, List.getElem_map] at e
    have h1 := hpeer i (by omega)
    have h2 := hpeer k (by omega)
    rw [atO_is hi] at h1
    rw [atO_is hk] at h2
    rw [e, h2] at h1
    omega
  have hndb : (xb.map Prod.fst).Nodup := hp.nodup_iff.2 hnda
  have hinj : ∀ j k, j < n → k < n → (atO xb j).peer = (atO xb k).peer → j = k := fun j k hj hk e => by
    have e1 := (hat j hj).2.1
    have e2 := (hat k hk).2.1
    rw [e] at e1
    have e3 : atO xb j = atO xb k := e1.trans e2.symm
    rw [atO_is (by omega), atO_is (by omega)] at e3
    have e4 : (xb.map Prod.fst)[j]'(by rw [List.length_map]; omega) = (xb.map Prod.fst)[k]'(by rw [List.length_map]; omega) := by rw [List.getElem_map, List.getElem_map]; exact e3
    exact (List.getElem_inj hndb).1 e4
  refine ⟨⟨fun j hj => (hat j hj).1, fun j hj => (hat j hj).2.1, fun j k hj hk e => hinj j k hj hk ?_, fun i hi => ?_, hinj⟩, fun j hj => (hat j hj).2.2⟩
  · have a1 := (hat j hj).2.2
    have a2 := (hat k hk).2.2
    have e' : (atO xb j).peer.toNat = (atO xb k).peer.toNat := e
    rw [← a1, ← a2, e']
  · obtain ⟨j, hj, e⟩ := hmem2 i hi
    refine ⟨j, hj, ?_⟩
    show (atO xb j).peer.toNat = i
    rw [e, hpeer i hi]
    rfl
end Go.Proofs.Ytkahjibdmhaglaa.Ch
