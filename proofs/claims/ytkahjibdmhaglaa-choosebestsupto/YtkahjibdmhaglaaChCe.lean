/- The document's ChooseEven. -/
import Derived.Test.YtkahjibdmhaglaaChCd
namespace Go.Proofs.Ytkahjibdmhaglaa.Ch
open Go.ChangeShapes Go.WideShapes Go.ChangeAt Go.RowKit Go.Joins Go.Deep Go.Proofs.Ytkahjibdmhaglaa.Ge
set_option linter.unusedVariables false
set_option linter.unusedSimpArgs false

/-- rising, out of the first n -/
def IsF (n : Nat) (L : List Nat) : Prop := ∃ p : Nat → Bool, L = (List.range n).filter p
theorem IsF.filt {n : Nat} {L : List Nat} (h : IsF n L) (q : Nat → Bool) : IsF n (L.filter q) := by
  obtain ⟨p, rfl⟩ := h
  exact ⟨_, List.filter_filter⟩
theorem IsF.ev {X : Nat → Of} {n : Nat} {ps : List Nat} (h : IsF n ps) : IsF n (evP X ps) := (((((h.filt _).filt _).filt _).filt _).filt _).filt _
theorem IsF.eq {n : Nat} {L : List Nat} (h : IsF n L) : (List.range n).filter (inF L) = L := by
  obtain ⟨p, rfl⟩ := h
  apply List.filter_congr
  intro i hi
  unfold inF
  rw [Bool.eq_iff_iff, decide_eq_true_iff, List.mem_filter]
  exact ⟨fun h => h.2, fun h => ⟨hi, h⟩⟩
/-- the first three of the first i that f says, but for b -/
def t3 (f : Nat → Bool) (b i : Nat) : List Nat := ((List.range i).filter (fun j => f j && decide (j ≠ b))).take 3
theorem t3_next (f : Nat → Bool) (b i : Nat) : t3 f b (i + 1) = if f i = true ∧ i ≠ b ∧ (t3 f b i).length < 3 then t3 f b i ++ [i] else t3 f b i := by
  unfold t3
  rw [List.range_succ, List.filter_append]
  obtain ⟨A, hA⟩ : ∃ A, (List.range i).filter (fun j => f j && decide (j ≠ b)) = A := ⟨_, rfl⟩
  rw [hA]
  cases hf : f i
  · rw [if_neg (fun c => by cases c.1)]
    simp [List.filter, hf]
  · by_cases c : i = b
    · rw [if_neg (fun c2 => c2.2.1 c)]
      simp [List.filter, hf, c]
    · have e : List.filter (fun j => f j && decide (j ≠ b)) [i] = [i] := by simp [List.filter, hf, c]
      rw [e, List.take_append]
      by_cases c3 : (A.take 3).length < 3
      · rw [if_pos ⟨rfl, c, c3⟩]
        congr 1
        rw [List.length_take] at c3
        obtain ⟨k, hk⟩ : ∃ k, 3 - A.length = k + 1 := ⟨2 - A.length, by omega⟩
        rw [hk]
        simp
      · rw [if_neg (fun c2 => c3 c2.2.2)]
        rw [List.length_take] at c3
        have : 3 - A.length = 0 := by omega
        rw [this]
        simp
theorem t3_end {n : Nat} {L : List Nat} (h : IsF n L) (b : Nat) : t3 (inF L) b n = (L.filter (fun i => decide (i ≠ b))).take 3 := by
  unfold t3
  have e := h.eq
  have h2 : (List.range n).filter (fun j => inF L j && decide (j ≠ b)) = L.filter (fun i => decide (i ≠ b)) := by
    have e2 : L.filter (fun i => decide (i ≠ b)) = ((List.range n).filter (inF L)).filter (fun i => decide (i ≠ b)) := by rw [e]
    rw [e2, List.filter_filter]
    apply List.filter_congr
    intro i _
    exact Bool.and_comm _ _
  rw [h2]
set_option maxRecDepth 100000 in
set_option maxHeartbeats 16000000 in
theorem reven_any (la : Option Addr) (n lc : Nat) (xs : List (Of × Oa)) (hxn : xs.length = n) (hn : n ≤ 1000) (w : World) (hx : Ofs w.heap.size w la xs) : Calls Try.prog 13 #[.slice la n lc] w (RcPost w (enP (atO xs) (rchP (atO xs) n))) := by
  have HX : Hid (Ofs w.heap.size w la xs) := hx
  have HN : Hid (xs.length = n) := hxn
  obtain ⟨R, hR⟩ : ∃ y, enP (atO xs) (rchP (atO xs) n) = y := ⟨_, rfl⟩
  have HR : Hid (enP (atO xs) (rchP (atO xs) n) = R) := hR
  rw [hR]
  obtain ⟨i0, hi, hz0, hz1, hz2⟩ := info_of EB.hi
  clear hx hxn hR
  go_enter Try.func13, Try.ntmps13
  go_wp2_with fail
  refine (rbest_any la n lc xs HN.out hn w HX.out _ rfl).mono ?_
  rintro e w1 ⟨rfl, hb1⟩
  have HB1 : Hid (Below w.heap.size w w1) := hb1
  clear hb1
  cases hbs : bsP (atO xs) (rchP (atO xs) n) with
  | none =>
    have HE : Hid (RcPost w R (.returned (.slice none 0 0)) w1) := by
      have h5 := HR.out
      unfold enP at h5
      rw [hbs] at h5
      rw [← h5]
      exact ⟨_, rfl, OwnL.nil _ _ _, HB1.out⟩
    have hb0 : bsI none = -1 := rfl
    rw [hb0]
    clear hbs hi hz0 hz1 hz2
    go_wp2_with fail
    go_ret
    exact HE.out
  | some b =>
    have HRE : Hid (b :: (evP (atO xs) (rchP (atO xs) n) |>.filter (fun i => decide (i ≠ b))).take 3 = R) := by
      have h5 := HR.out
      unfold enP at h5
      rw [hbs] at h5
      exact h5
    have hbI : bsI (some b) = (b : Int) := rfl
    rw [hbI]
    have hb0 : ¬ (b : Int) < 0 := by omega
    clear hbs hbI HR
    go_wp2_with (at_make; refine wpList_make_full _ rfl _ _ 53 rfl w1.heap.size 4 i0 _ 1 Try.underlying53 hi hz0 hz1 _ _ _ _ n rfl rfl rfl rfl (by rw [hz2]; show 1 * n ≤ _; omega) (by unfold maxLen; omega) (Nat.le_refl _) ?_)
    intro w2 hrow hgr
    rw [eb_rep] at hrow
    have HM0 : Hid (B1 w1 n w1.heap.size (fun _ => false) w2) := (B1.made (Below.refl _ _) hn hrow hgr).1
    obtain ⟨i1, hi1⟩ : ∃ y, w1.heap.size = y := ⟨_, rfl⟩
    have HM : Hid (B1 w1 n i1 (fun _ => false) w2) := by rw [← hi1]; exact HM0.out
    have HB2 : Hid (Below w.heap.size w w2) := HB1.out.trans (HM.out.bel.mono HB1.out.size)
    rw [hi1]
    clear hrow hgr hi hz0 hz1 hz2 HM0 hi1
    have hL := rleft_any 7 6 (.inl ⟨rfl, rfl⟩) la n lc xs HN.out hn (some ⟨i1, 0, none⟩) n (fun _ => false) w2 (ofs_nx HX.out HB2.out) HM.out.lst
    rw [show ((7 : Nat) : Int) = 7 from rfl, ps_none] at hL
    go_wp2_with fail
    refine hL.mono ?_
    rintro e w3 ⟨g3, rfl, hb3⟩
    have HF : Hid (IsF n (evP (atO xs) (rchP (atO xs) n))) := IsF.ev (show IsF n (rchP (atO xs) n) from ⟨_, rfl⟩)
    obtain ⟨L, hLL⟩ : ∃ y, evP (atO xs) (rchP (atO xs) n) = y := ⟨_, rfl⟩
    have HB3 : Hid (Lst EB w3 (some ⟨g3, 0, none⟩) (bl n (inF L)) ∧ Below w.heap.size w w3) := by
      rw [← hLL]
      exact ⟨hb3.lst, HB2.out.trans (hb3.bel.mono HB2.out.size)⟩
    rw [hLL] at HF HRE
    clear hb3 hL HB1 HB2 HM hLL
    have HMD := own_made EN (W := w3) [b] 1 rfl (by decide) rfl
    have HMO : Hid (OwnL EN w3.heap.size (w3.alloc (Obj.cells (EN.enc b).toArray 3)) (.slice (some ⟨w3.heap.size, 0, none⟩) 1 1) [b] ∧ Below w3.heap.size w3 (w3.alloc (Obj.cells (EN.enc b).toArray 3))) := HMD
    clear HMD
    go_wp2_with (refine list_nbuild rfl _ rfl b rfl ?_)
    obtain ⟨W4, hW4⟩ : ∃ y, w3.alloc (Obj.cells (EN.enc b).toArray 3) = y := ⟨_, rfl⟩
    obtain ⟨o4, ho4⟩ : ∃ y, w3.heap.size = y := ⟨_, rfl⟩
    have HO4 : Hid (OwnL EN w3.heap.size W4 (.slice (some ⟨o4, 0, none⟩) 1 1) [b]) := by rw [← hW4, ← ho4]; exact HMO.out.1
    have HB4 : Hid (Below w3.heap.size w3 W4) := by rw [← hW4]; exact HMO.out.2
    rw [hW4, ho4]
    clear hW4 ho4 HMO
    go_wp2_with fail
    go_loopw [20, 5, 6] (fun iv ov _ wr => ∃ i : Nat, i ≤ n ∧ iv = .int .i64 (i : Int) ∧ OwnL EN w3.heap.size wr ov (b :: t3 (inF L) b i) ∧ Below w3.heap.size w3 wr) (fun i _ _ _ => n - (intOf i).toNat)
    case atStart => exact ⟨0, by omega, rfl, HO4.out, HB4.out⟩
    case round =>
      obtain ⟨i, hi', rfl, ho, hbl⟩ := hrel
      obtain ⟨qs, hqs⟩ : ∃ y, t3 (inF L) b i = y := ⟨_, rfl⟩
      have hq3 : qs.length ≤ 3 := by rw [← hqs]; unfold t3; rw [List.length_take]; omega
      have HQS : Hid (t3 (inF L) b i = qs) := hqs
      rw [hqs] at ho
      obtain ⟨va, vq, rfl, -⟩ := ho.form
      obtain ⟨wz, hwz⟩ : ∃ y, wr = y := ⟨_, rfl⟩
      rw [hwz] at ho hbl ⊢
      obtain ⟨ql, hql⟩ : ∃ y, (b :: qs).length = y := ⟨_, rfl⟩
      have hql2 : ql = qs.length + 1 := by rw [← hql]; rfl
      rw [hql] at ho
      have HOQ : Hid (OwnL EN w3.heap.size wz (.slice va ql vq) (b :: qs)) := ho
      have HBL : Hid (Below w3.heap.size w3 wz) := hbl
      rw [hql]
      clear hqs ho hbl hwz hql HO4 HB4
      by_cases hlt : i < n
      case neg =>
        have hii : ¬ (i : Int) < (n : Int) := by omega
        have HE : Hid (RcPost w R (.returned (.slice va ql vq)) wz) := by
          have h5 := HQS.out
          rw [show i = n by omega, t3_end HF.out] at h5
          rw [← HRE.out, h5]
          exact ⟨_, rfl, HOQ.out.mono HB3.out.2.size, HB3.out.2.trans (HBL.out.mono HB3.out.2.size)⟩
        clear hql2 hq3
        go_wp2_with fail
        go_ret
        exact HE.out
      have hii : (i : Int) < (n : Int) := by omega
      have ii0 : (0 : Int) ≤ (i : Int) := by omega
      obtain ⟨gb, go, q1, -, cg⟩ := eb_get (HB3.out.1.bel HBL.out) (i := i) (by rw [bl_len]; exact hlt)
      cases q1
      rw [bl_at, Nat.zero_add] at cg
      obtain ⟨v, hv⟩ : ∃ y, inF L i = y := ⟨_, rfl⟩
      have HNX : Hid (t3 (inF L) b (i + 1) = if v = true ∧ i ≠ b ∧ qs.length < 3 then qs ++ [i] else qs) := by show _ = _; rw [t3_next, HQS.out, hv]
      rw [hv] at cg
      clear hv
      cases v
      case false =>
        rw [if_neg (fun c => by cases c.1)] at HNX
        clear hql2 hq3
        go_wp2_with fail
        refine ⟨⟨i + 1, by omega, by simp, by rw [HNX.out]; exact HOQ.out, HBL.out⟩, ?_⟩
        simp [intOf]
        omega
      by_cases hjb : i = b
      case pos =>
        rw [if_neg (fun c => c.2.1 hjb)] at HNX
        have hjn : ((i : Int) != (b : Int)) = false := by rw [hjb]; simp
        clear hjb hql2 hq3
        go_wp2_with fail
        refine ⟨⟨i + 1, by omega, by simp, by rw [HNX.out]; exact HOQ.out, HBL.out⟩, ?_⟩
        simp [intOf]
        omega
      have hjn : ((i : Int) != (b : Int)) = true := by simp; omega
      by_cases hq : qs.length < 3
      case neg =>
        rw [if_neg (fun c => hq c.2.2)] at HNX
        have hql4 : ¬ (ql : Int) < 4 := by omega
        clear hjb hql2 hq3 hq
        go_wp2_with fail
        refine ⟨⟨i + 1, by omega, by simp, by rw [HNX.out]; exact HOQ.out, HBL.out⟩, ?_⟩
        simp [intOf]
        omega
      rw [if_pos ⟨rfl, hjb, hq⟩] at HNX
      have hql4 : (ql : Int) < 4 := by omega
      have HQ3 : Hid (qs.length < 3) := hq
      clear hjb hql2 hq3 hq
      have HA2 : Hid (Below wz.heap.size wz (wz.alloc (Obj.cells (EN.enc i).toArray 3))) := (Below.refl _ wz).alloc (Nat.le_refl _) _
      have HSZ : Hid (w3.heap.size ≤ (wz.alloc (Obj.cells (EN.enc i).toArray 3)).heap.size) := Nat.le_trans HBL.out.size HA2.out.size
      go_wp2_with (first | (refine list_nbuild rfl _ rfl i rfl ?_) | (at_builtin; refine list_app1 EN rfl _ _ 24 rfl rfl w3.heap.size (.slice va ql vq) (b :: qs) i (by have := HQ3.out; simp; omega) (w := wz) (wz.alloc (Obj.cells (EN.enc i).toArray 3)) rfl (HOQ.out.bel HA2.out) rfl HSZ.out rfl ?_))
      intro v7 w7 ho7 hg7 ha7
      have HB7 : Hid (Below w3.heap.size w3 w7) := (HBL.out.trans (HA2.out.mono HBL.out.size)).grown hg7.out HSZ.out (fun k e => (HOQ.out.row.lt k e).1)
      have HO7 : Hid (OwnL EN w3.heap.size w7 v7 (b :: (qs ++ [i]))) := ho7.out
      clear ho7 hg7 ha7 HA2 HSZ HOQ HBL cg
      go_wp2_with fail
      refine ⟨⟨i + 1, by omega, by simp, by rw [HNX.out]; exact HO7.out, HB7.out⟩, ?_⟩
      simp [intOf]
      omega
end Go.Proofs.Ytkahjibdmhaglaa.Ch
