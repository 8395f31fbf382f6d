/- Set where two part: what its writes make of the memory; plain. -/
import Derived.Test.YtjhdjbhpofhiaabFbY
import Derived.Test.YtjhdjbhpofhiaabTrB
namespace Go.Proofs.Ytjhdjbhpofhiaab.Fb
open Go.Proofs.Ytjhdjbhpofhiaab.PM Go.Proofs.Ytjhdjbhpofhiaab
set_option linter.unusedVariables false

theorem shN_comm (a b : Int) : TrM.shN a b = TrM.shN b a := by unfold TrM.shN; rw [Nat.xor_comm]
theorem shA_comm {a n b m : Int} (ha : vld a n = true) (hb : vld b m = true) (a0 : 0 ≤ a) (a1 : a < 4294967296) (b0 : 0 ≤ b) (b1 : b < 4294967296) (h1 : cov b m a n = false) (h2 : cov a n b m = false) : TrM.shA a b = TrM.shA b a := by
  obtain ⟨-, -, hc, -⟩ := TrM.shared_ok hb ha b0 b1 a0 a1 h1 h2
  obtain ⟨-, -, ⟨k0, k1, hm⟩, c1, c2⟩ := (TrM.cov_iff _ _ _ _).1 hc
  have := (emod_iff (TrM.shA b a) a (psz (TrM.shN b a)) (psz_pos _) hm).2 ⟨c1, c2⟩
  rw [← this]
  conv => lhs; unfold TrM.shA
  rw [shN_comm]

theorem step_fork {ms : List Int} {made : Int} {fr : List Int} {t : TrM.Tr} {ad len way : Int} {F lk : Nat} {la b m u : Int} {hh : Bool} {l r : TrM.Tr} {C : TrM.Tr → TrM.Tr} {rest : List Int} (h : Fit ms made fr t) (hC : Ctx ms ad len 0 0 t F (lk : Int) la (.node b m u hh l r) C rest) (hv : vld ad len = true) (a0 : 0 ≤ ad) (a1 : ad < 4294967296) (w1 : 1 ≤ way) (w2 : way ≤ 65535)
    (c1 : cov b m ad len = false) (c2 : cov ad len b m = false) {n n2 : Int} (hn : spN made fr = n) (hn2 : spN (spM made fr) fr.dropLast = n2) {th fa fl s0 s1 : Int} (hth : wd ms lk = th) (hfa : TrM.shA ad b = fa) (hfl : TrM.shN ad b = fl)
    (hs : (sdI b fl = 0 ∧ s0 = th ∧ s1 = n) ∨ (sdI b fl = 1 ∧ s0 = n ∧ s1 = th)) :
    Step ms made t (TrM.ins t ad len way) (nodeWs n ad len way 0 0 ++ (nodeWs n2 fa fl 0 s0 s1 ++ [(lk, n2)])) (spM (spM made fr) fr.dropLast) fr.dropLast.dropLast := by
  obtain ⟨⟨n1, nb, n3, n4⟩, nd, rng, g1, g2⟩ := h.fresh hn
  obtain ⟨⟨p1, pb, p3, p4⟩, nd2, rng2, q1, q2⟩ := fresh0 (by have := h.m0; omega) nd (fun j hj => by have := rng j hj; omega) hn2
  have hnn : n2 ≠ n := by
    intro e
    rcases List.eq_nil_or_concat fr.dropLast with e2 | ⟨fr', x, e2⟩
    · rw [e2] at hn2
      have : n2 = spM made fr + 1 := by rw [← hn2]; rfl
      omega
    · rw [e2] at hn2
      have : n2 = x := by rw [← hn2]; unfold spN; simp
      apply n4
      rw [e2, ← e, this]; simp
  obtain ⟨hsin, hlks, hnds⟩ := hC.apart h
  obtain ⟨k0, k1, k2⟩ := hC.lk0 h
  have m0 := h.m0
  have hpos := h.rp.pos
  have hwfs := hC.wf
  obtain ⟨hvb, hb, -⟩ := hwfs
  obtain ⟨⟨f0, f1, f2⟩, -⟩ := TrM.shared_ok hv hvb a0 a1 hb.1 hb.2 c2 c1
  rw [hfl] at f0 f1 f2
  have hl32 : len ≤ 32 := ((vld_iff ad len).1 hv).2.1
  have efa : TrM.shA b ad = fa := by rw [← hfa]; exact (shA_comm hv hvb a0 a1 hb.1 hb.2 c1 c2).symm
  have efl : TrM.shN b ad = fl := by rw [← hfl]; exact shN_comm _ _
  have hlkn : ∀ p, p ∉ nums ms (wd ms 0) t → 1 ≤ p → ∀ x, p * 4 ≤ x → x ≤ p * 4 + 3 → x ≠ (lk : Int) := by
    intro p hp hp1 x xa xb e
    rcases k2 with e2 | ⟨j, hj, e2⟩
    · omega
    · have : j = p := by omega
      exact hp (this ▸ hj)
  obtain ⟨ms', hms'⟩ : ∃ x, putsP ms (nodeWs n ad len way 0 0 ++ (nodeWs n2 fa fl 0 s0 s1 ++ [(lk, n2)])) = x := ⟨_, rfl⟩
  have wd' : ∀ x, 0 ≤ x → wd ms' x = if x = lk then n2 else if x = n2 * 4 + 3 then s1 else if x = n2 * 4 + 2 then s0 else if x = n2 * 4 + 1 then fa else if x = n2 * 4 then fl * 65536 + 0 else if x = n * 4 + 3 then 0 else if x = n * 4 + 2 then 0 else if x = n * 4 + 1 then ad else if x = n * 4 then len * 65536 + way else wd ms x := fun x x0 => by
    rw [← hms', ← List.append_assoc, wd_last _ _ _ _ _ x0]
    have : putsP ms (nodeWs n ad len way 0 0 ++ nodeWs n2 fa fl 0 s0 s1) = putsP (putsP ms (nodeWs n ad len way 0 0)) (nodeWs n2 fa fl 0 s0 s1) := by unfold putsP; rw [List.foldl_append]
    rw [this, wd_node _ _ _ _ _ _ _ (by omega) _ x0, wd_node _ _ _ _ _ _ _ (by omega) _ x0]
  have L2 := hlkn n2 p3 p1
  have L1 := hlkn n n3 n1
  have off : ∀ x, 0 ≤ x → (x = 0 ∨ ∃ j ∈ nums ms (wd ms 0) t, j * 4 ≤ x ∧ x ≤ j * 4 + 3) → x ≠ lk → wd ms' x = wd ms x := by
    intro x x0 hx hne
    have hx2 : ∀ p, p ∉ nums ms (wd ms 0) t → 1 ≤ p → ¬ (p * 4 ≤ x ∧ x ≤ p * 4 + 3) := by
      rintro p hp hp1 ⟨xa, xb⟩
      rcases hx with rfl | ⟨j, hj, ja, jb⟩
      · omega
      · have : j = p := by omega
        exact hp (this ▸ hj)
    have y1 := hx2 n n3 n1
    have y2 := hx2 n2 p3 p1
    rw [wd' x x0, if_neg hne, if_neg (by omega), if_neg (by omega), if_neg (by omega), if_neg (by omega), if_neg (by omega), if_neg (by omega), if_neg (by omega), if_neg (by omega)]
  have elk : wd ms' lk = n2 := by rw [wd' _ k0, if_pos rfl]
  have a0' : wd ms' (n2 * 4) = fl * 65536 + 0 := by rw [wd' _ (by omega), if_neg (L2 _ (by omega) (by omega)), if_neg (by omega), if_neg (by omega), if_neg (by omega), if_pos rfl]
  have a1' : wd ms' (n2 * 4 + 1) = fa := by rw [wd' _ (by omega), if_neg (L2 _ (by omega) (by omega)), if_neg (by omega), if_neg (by omega), if_pos rfl]
  have a2' : wd ms' (n2 * 4 + 2) = s0 := by rw [wd' _ (by omega), if_neg (L2 _ (by omega) (by omega)), if_neg (by omega), if_pos rfl]
  have a3' : wd ms' (n2 * 4 + 3) = s1 := by rw [wd' _ (by omega), if_neg (L2 _ (by omega) (by omega)), if_pos rfl]
  have b0' : wd ms' (n * 4) = len * 65536 + way := by rw [wd' _ (by omega), if_neg (L1 _ (by omega) (by omega)), if_neg (by omega), if_neg (by omega), if_neg (by omega), if_neg (by omega), if_neg (by omega), if_neg (by omega), if_neg (by omega), if_pos rfl]
  have b1' : wd ms' (n * 4 + 1) = ad := by rw [wd' _ (by omega), if_neg (L1 _ (by omega) (by omega)), if_neg (by omega), if_neg (by omega), if_neg (by omega), if_neg (by omega), if_neg (by omega), if_neg (by omega), if_pos rfl]
  have b2' : wd ms' (n * 4 + 2) = 0 := by rw [wd' _ (by omega), if_neg (L1 _ (by omega) (by omega)), if_neg (by omega), if_neg (by omega), if_neg (by omega), if_neg (by omega), if_neg (by omega), if_pos rfl]
  have b3' : wd ms' (n * 4 + 3) = 0 := by rw [wd' _ (by omega), if_neg (L1 _ (by omega) (by omega)), if_neg (by omega), if_neg (by omega), if_neg (by omega), if_neg (by omega), if_pos rfl]
  have fs := Rp.frame (ms' := ms') hC.rp (fun j hj i i0 i3 => off _ (by have := hpos j (hsin j hj); omega) (.inr ⟨j, hsin j hj, by omega, by omega⟩) (hlks j hj i i0 i3))
  rw [hth] at fs
  have leafR : Rp ms' n (.node ad len way true .nil .nil) := ⟨⟨n1, b0', b1', by omega, w2, ⟨fun _ => by omega, fun _ => rfl⟩⟩, b2', b3'⟩
  have leafN : nums ms' n (.node ad len way true .nil .nil) = [n] := rfl
  obtain ⟨s', hs', hrs, hnums⟩ : ∃ s', TrM.ins (.node b m u hh l r) ad len way = s' ∧ Rp ms' (wd ms' lk) s' ∧ (nums ms' (wd ms' lk) s').Perm ([n2, n] ++ nums ms th (.node b m u hh l r)) := by
    have hne : ¬ (b = ad ∧ m = len) := fun e => by
      obtain ⟨rfl, rfl⟩ := e
      rw [TrM.cov_self hv] at c1; cases c1
    have e : TrM.ins (.node b m u hh l r) ad len way = if TrM.sdI b fl = 0 then .node fa fl 0 false (.node b m u hh l r) (.node ad len way true .nil .nil) else .node fa fl 0 false (.node ad len way true .nil .nil) (.node b m u hh l r) := by
      conv => lhs; unfold TrM.ins
      rw [if_neg hne, if_neg (by rw [c1]; decide), if_neg (by rw [c2]; decide), efl, efa]
    rw [elk]
    rcases hs with ⟨hs, e0, e1⟩ | ⟨hs, e0, e1⟩
    · rw [if_pos (show TrM.sdI b fl = 0 from hs)] at e
      refine ⟨_, e, ⟨⟨p1, a0', a1', by decide, by decide, by simp⟩, by rw [a2', e0]; exact fs.1, by rw [a3', e1]; exact leafR⟩, ?_⟩
      show (n2 :: (nums ms' (wd ms' (n2 * 4 + 2)) _ ++ nums ms' (wd ms' (n2 * 4 + 3)) _)).Perm _
      rw [a2', a3', e0, e1, fs.2, leafN]
      exact List.Perm.cons _ List.perm_append_comm
    · rw [if_neg (show ¬ TrM.sdI b fl = 0 from by show ¬ sdI b fl = 0; rw [hs]; decide)] at e
      refine ⟨_, e, ⟨⟨p1, a0', a1', by decide, by decide, by simp⟩, by rw [a2', e0]; exact leafR, by rw [a3', e1]; exact fs.1⟩, ?_⟩
      show (n2 :: (nums ms' (wd ms' (n2 * 4 + 2)) _ ++ nums ms' (wd ms' (n2 * 4 + 3)) _)).Perm _
      rw [a2', a3', e0, e1, fs.2, leafN]
      exact .refl _
  have hC2 := hC.ins way
  rw [hs'] at hC2
  have most : ∀ y ∈ nodeWs n ad len way 0 0 ++ (nodeWs n2 fa fl 0 s0 s1 ++ [(lk, n2)]), (y.1 : Int) ≤ 4 * spM (spM made fr) fr.dropLast + 3 := by
    intro y hy
    rcases List.mem_append.1 hy with hy | hy
    · have := node_at (by omega) y hy; omega
    · rcases List.mem_append.1 hy with hy | hy
      · have := node_at (by omega) y hy; omega
      · simp at hy; subst hy; show (lk : Int) ≤ _; omega
  have len1 := spM_len made fr
  have len2 := spM_len (spM made fr) fr.dropLast
  refine Step.of h ?_ ?_ most (by simp [nodeWs]) ⟨by omega, by omega⟩ ?_ (by omega)
  · rw [hC2]
    refine h.put hC.toHole _ (N := [n2, n]) (S' := nums ms (wd ms lk) (.node b m u hh l r)) ?_ (by rw [hms']; exact hrs) (by rw [hms', hth]; exact hnums) (List.Sublist.refl _) (by rw [← hC2]; exact TrM.wf_ins h.wf hv a0 a1) (by rw [← hC2]; exact sl_ins h.sl) ?_ ?_ (by omega) most (by simp only [List.length_cons, List.length_nil]; omega)
    · intro x hx hne _
      rw [hms']
      have x0 : 0 ≤ x := by
        rcases hx with rfl | ⟨j, hj, ja, jb⟩
        · decide
        · have := hpos j hj; omega
      exact off x x0 hx hne
    · rw [List.nodup_append] at nd2
      have hsub : fr.dropLast.dropLast ⊆ fr.dropLast := fun x hx => List.dropLast_subset _ hx
      refine List.nodup_cons.2 ⟨?_, List.nodup_cons.2 ⟨fun hm => n4 (hsub hm), nd2.2.1⟩⟩
      intro hm
      rcases List.mem_cons.1 hm with e | e
      · exact hnn e
      · exact p4 e
    · intro j hj
      simp only [List.cons_append, List.nil_append, List.mem_cons] at hj
      rcases hj with rfl | rfl | hj
      · exact ⟨fun h => absurd h p3, p1, pb⟩
      · exact ⟨fun h => absurd h n3, n1, by omega⟩
      · have := rng2 j (List.mem_append_right _ hj)
        refine ⟨fun hm => ?_, this.1, by omega⟩
        rw [List.nodup_append] at nd2
        exact absurd rfl (nd2.2.2 j hm j hj)
  · rw [← List.append_assoc]
    exact ahead_of h.rp _ _ (fun y hy => by
      rcases List.mem_append.1 hy with hy | hy
      · exact ⟨n, n1, n3, node_at (by omega) y hy⟩
      · exact ⟨n2, p1, p3, node_at (by omega) y hy⟩)
  · rcases spM_room (spM made fr) fr.dropLast with e | e
    · rcases spM_room made fr with e2 | e2
      · left; omega
      · right; rw [e2]; rfl
    · exact .inr e
end Go.Proofs.Ytjhdjbhpofhiaab.Fb
