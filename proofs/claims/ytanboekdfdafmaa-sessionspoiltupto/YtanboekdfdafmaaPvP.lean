/- What Encode answers. -/
import Derived.Test.YtanboekdfdafmaaPvI
import Derived.Test.YtanboekdfdafmaaPvM
import Derived.Test.YtanboekdfdafmaaPvN
namespace Go.Proofs.Ytanboekdfdafmaa.Pv
open Go.ChangeShapes Go.WideShapes Go.ChangeAt Go.RowKit Go.Joins Go.Proofs.Ytanboekdfdafmaa.PM Go.Proofs.Ytanboekdfdafmaa.Ask Go.Proofs.Ytanboekdfdafmaa.Ge
set_option linter.unusedVariables false

/-- what Encode leaves -/
def EncPost (w : World) (bs : List Nat) (er : Int) (e : Ending) (w' : World) : Prop := ∃ v, e = .returned (.tuple #[v, .int .i64 er]) ∧ OwnL E8 w.heap.size w' v bs ∧ Below w.heap.size w w'
theorem all_u8 {xs ys : List Nat} (h1 : ∀ d ∈ xs, d < 256) (h2 : ∀ d ∈ ys, d < 256) : ∀ d ∈ xs ++ ys, d < 256 := fun d hd => by
  rcases List.mem_append.1 hd with e | e
  · exact h1 d e
  · exact h2 d e
theorem wordsB_u8 (size : Nat) (xs : List Int) : ∀ d ∈ wordsB size xs, d < 256 := fun d hd => by
  unfold wordsB at hd
  obtain ⟨x, -, hx⟩ := List.mem_flatMap.1 hd
  exact big_u8 _ _ d hx
theorem pfxsB_u8 (ps : List (Int × Int)) : ∀ d ∈ pfxsB ps, d < 256 := fun d hd => by
  unfold pfxsB at hd
  obtain ⟨x, -, hx⟩ := List.mem_flatMap.1 hd
  exact all_u8 (big_u8 _ _) (big_u8 _ _) d hx
theorem piece_u8 {xs : List Nat} (h : ∀ d ∈ xs, d < 256) : ∀ d ∈ piece xs, d < 256 := all_u8 (big_u8 _ _) h
theorem attrIf_u8 (k size : Nat) (t : Bool) (xs : List Int) : ∀ d ∈ attrIf k size t xs, d < 256 := fun d hd => by
  unfold attrIf at hd
  split at hd
  · exact all_u8 (big_u8 _ _) (piece_u8 (wordsB_u8 _ _)) d hd
  · cases hd
theorem attrs_u8 (m : Ms) : ∀ d ∈ attrs m, d < 256 := all_u8 (all_u8 (all_u8 (all_u8 (all_u8 (all_u8 (all_u8 (attrIf_u8 _ _ _ _) (attrIf_u8 _ _ _ _)) (attrIf_u8 _ _ _ _)) (attrIf_u8 _ _ _ _)) (attrIf_u8 _ _ _ _)) (attrIf_u8 _ _ _ _)) (attrIf_u8 _ _ _ _)) (attrIf_u8 _ _ _ _)
theorem body_u8 (m : Ms) : ∀ d ∈ body m, d < 256 := by
  unfold body
  split
  · exact all_u8 (all_u8 (all_u8 (big_u8 _ _) (big_u8 _ _)) (big_u8 _ _)) (big_u8 _ _)
  · split
    · exact all_u8 (all_u8 (piece_u8 (pfxsB_u8 _)) (piece_u8 (attrs_u8 _))) (pfxsB_u8 _)
    · split
      · exact big_u8 _ _
      · intro d hd; cases hd
theorem frame_u8 (k : Nat) {xs : List Nat} (h : ∀ d ∈ xs, d < 256) : ∀ d ∈ frame k xs, d < 256 := all_u8 (all_u8 (all_u8 (all_u8 (by decide) (big_u8 _ _)) (big_u8 _ _)) (big_u8 _ _)) h
theorem body_len {m : Ms} (h : CK m) (hl : m.lost.length + m.hv.length ≤ 1024) : (body m).length ≤ 20000 := by
  have h1 := pfxsB_len (ps := m.lost) (fun p hp => by have := allV_len h.vl p hp; omega)
  have h2 := pfxsB_len (ps := m.hv) (fun p hp => by have := allV_len h.vh p hp; omega)
  unfold body
  split
  · simp [big_len]
  · rename_i k1
    split
    · rename_i k2
      have hr := h.r
      unfold inR at hr
      rw [if_neg k1, if_pos k2] at hr
      have := attrs_len (m := m) (rr_of hr)
      unfold updB piece
      simp only [List.length_append, big_len]
      omega
    · split
      · simp [big_len]
      · simp
set_option maxRecDepth 100000 in
set_option maxHeartbeats 16000000 in
theorem encode_any (m : Ms) (s : Sl) (w : World) (hok : MOk w m s) (hsm : m.lost.length ≤ 100000 ∧ m.hv.length ≤ 100000) (bs : List Nat) (er : Int) (hb : encB m = bs) (he : encE m = er) :
    Calls Try.prog 28 #[msV m s] w (EncPost w bs er) := by
  have HOK : Hid (MOk w m s) := hok
  have HERR : Hid (∀ W e5, Below w.heap.size w W → EncPost w [] e5 (.returned (.tuple #[.slice none 0 0, .int .i64 e5])) W) := fun W e5 hb => ⟨_, rfl, OwnL.nil _ _ _, hb⟩
  obtain ⟨t, ht⟩ : ∃ t, chk m = t := ⟨_, rfl⟩
  have HT : Hid (chk m = t) := ht
  obtain ⟨n1, hn1⟩ : ∃ n, m.lost.length = n := ⟨_, rfl⟩
  have HN1 : Hid (m.lost.length = n1) := hn1
  obtain ⟨n2, hn2⟩ : ∃ n, m.hv.length = n := ⟨_, rfl⟩
  have HN2 : Hid (m.hv.length = n2) := hn2
  obtain ⟨q1, hq1⟩ : ∃ n, m.rt.path.length = n := ⟨_, rfl⟩
  have HQ1 : Hid (m.rt.path.length = q1) := hq1
  obtain ⟨q2, hq2⟩ : ∃ n, m.rt.marks.length = n := ⟨_, rfl⟩
  have HQ2 : Hid (m.rt.marks.length = q2) := hq2
  obtain ⟨q3, hq3⟩ : ∃ n, m.rt.clus.length = n := ⟨_, rfl⟩
  have HQ3 : Hid (m.rt.clus.length = q3) := hq3
  have HV : Hid (msV m s = .agg #[.int .i64 m.kind, .int .i64 m.dom, .int .i64 m.id, .int .i64 m.hold, .int .i64 m.code, .slice s.l n1 s.lc, .slice s.h n2 s.hc, .int .u32 m.rt.pa, .int .i64 m.rt.pn, .slice s.p q1 s.pc, .int .i64 m.rt.org, .int .i64 m.rt.pref, .int .i64 m.rt.med, .int .u32 m.rt.next, .slice s.m q2 s.mc, .slice s.c q3 s.cc, .int .i64 m.rt.auth]) := by unfold msV; rw [hn1, hn2, hq1, hq2, hq3]; rfl
  have HEN : Hid ((if t = 0 then (if 1024 < n1 + n2 then 6 else if 1024 < 9 + (body m).length then 6 else 0) else t) = er) := by
    show _ = _
    rw [← he]
    unfold encE
    rw [ht, hn1, hn2]
  have HBN : Hid ((if er = 0 then frame m.kind.toNat (body m) else []) = bs) := by
    show _ = _
    rw [← hb, ← he]
    rfl
  rw [hn1, hn2] at hsm
  obtain ⟨hsm1, hsm2⟩ := hsm
  rw [HV.out]
  clear hn1 hn2 hq1 hq2 hq3 hok ht hb he
  go_enter Try.func28, Try.ntmps28
  go_upto_region 1 with fail
  obtain ⟨w0, hw0⟩ : ∃ w0, w.alloc (Obj.cells #[.int .i64 m.kind, .int .i64 m.dom, .int .i64 m.id, .int .i64 m.hold, .int .i64 m.code, .slice s.l n1 s.lc, .slice s.h n2 s.hc, .int .u32 m.rt.pa, .int .i64 m.rt.pn, .slice s.p q1 s.pc, .int .i64 m.rt.org, .int .i64 m.rt.pref, .int .i64 m.rt.med, .int .u32 m.rt.next, .slice s.m q2 s.mc, .slice s.c q3 s.cc, .int .i64 m.rt.auth] 54) = w0 := ⟨_, rfl⟩
  obtain ⟨hbx, hb0, hs0⟩ := mbox_new (m := m) (s := s) (w := w) (W := w0) (by rw [HN1.out, HN2.out, HQ1.out, HQ2.out, HQ3.out]; exact hw0)
  obtain ⟨b, hb⟩ : ∃ b, w.heap.size = b := ⟨_, rfl⟩
  rw [hw0]
  rw [hb] at hbx ⊢
  have HBZ : Hid (w.heap.size = b) := hb
  have HX0 : Hid (MBox b m s w0) := hbx
  have HB0 : Hid (Below w.heap.size w w0) := hb0
  have HO0 : Hid (MOk w0 m s) := HOK.out.bel hb0
  have hbs : b < w0.heap.size := by omega
  have HBX : Hid (∀ W, Below w0.heap.size w0 W → MBox b m s W) := fun W h => HX0.out.blk (h.block b hbs)
  have HBW : Hid (∀ W, Below w0.heap.size w0 W → Below w.heap.size w W) := fun W h => HB0.out.trans (h.mono HB0.out.size)
  have HMW : Hid (∀ W, Below w0.heap.size w0 W → MOk W m s) := fun W h => HO0.out.bel h
  have hbn : b ≤ w0.heap.size := by omega
  clear hw0 hbx hb0 HOK hb hs0
  obtain ⟨c0, c1, c2, c3, c4, c5, c6, c7, c8, c9, c10, c11, c12, c13, c14, c15, c16⟩ := HX0.out
  rw [HN1.out] at c5
  rw [HN2.out] at c6
  rw [HQ1.out] at c9
  rw [HQ2.out] at c14
  rw [HQ3.out] at c15
  have HCH := check_any m s w0 HO0.out t HT.out
  rw [HV.out] at HCH
  go_wp2_with fail
  refine HCH.mono ?_
  rintro e w1 ⟨rfl, hb1⟩
  have HB1 : Hid (Below w0.heap.size w0 w1) := hb1
  clear hb1 HCH c0 c1 c2 c3 c4 c5 c6 c7 c8 c9 c10 c11 c12 c13 c14 c15 c16
  obtain ⟨c0, c1, c2, c3, c4, c5, c6, c7, c8, c9, c10, c11, c12, c13, c14, c15, c16⟩ := HBX.out w1 HB1.out
  rw [HN1.out] at c5
  rw [HN2.out] at c6
  rw [HQ1.out] at c9
  rw [HQ2.out] at c14
  rw [HQ3.out] at c15
  by_cases t0 : t = 0
  · subst t0
    have HEN2 : Hid ((if 1024 < n1 + n2 then 6 else if 1024 < 9 + (body m).length then 6 else 0) = er) := by
      have := HEN.out
      rw [if_pos rfl] at this
      exact this
    have HCK : Hid (CK m) := ck_of HT.out
    clear HEN
    have w12 : IntKind.i64.wrap ((n1 : Int) + (n2 : Int)) = ((n1 + n2 : Nat) : Int) := by rw [IntWalk.i64_in _ (by omega)]; omega
    by_cases hbig : 1024 < n1 + n2
    · have he := HEN2.out
      rw [if_pos hbig] at he
      subst he
      have hb := HBN.out
      rw [if_neg (by decide)] at hb
      subst hb
      have hbi : (1024 : Int) < (n1 : Int) + (n2 : Int) := by omega
      go_wp2_with fail
      refine bodyPost_ret (v := .tuple #[.slice none 0 0, .int .i64 6]) (by simp [results, Try.results28, go_sem]) rfl ?_
      exact HERR.out _ _ (HBW.out _ HB1.out)
    · have hbi : ¬ (1024 : Int) < (n1 : Int) + (n2 : Int) := by omega
      have he := HEN2.out
      rw [if_neg hbig] at he
      have HEN3 : Hid ((if 1024 < 9 + (body m).length then 6 else 0) = er) := he
      obtain ⟨bl, hbl⟩ : ∃ l, (body m).length = l := ⟨_, rfl⟩
      have hbl1 : bl ≤ 20000 := by rw [← hbl]; exact body_len HCK.out (by rw [HN1.out, HN2.out]; omega)
      rw [hbl] at HEN3
      have HBO := bodyOf_any m s w1 (HMW.out _ HB1.out) HT.out (by rw [HN1.out, HN2.out]; omega)
      rw [HV.out] at HBO
      have HBL : Hid ((body m).length = bl) := hbl
      clear he HEN2 hbl
      go_wp2_with fail
      refine HBO.mono ?_
      rintro e w2 ⟨v2, rfl, ho2, hb2⟩
      have HB2 : Hid (Below w0.heap.size w0 w2) := HB1.out.trans (hb2.mono HB1.out.size)
      obtain ⟨va, vc, hv2, -⟩ := ho2.form
      rw [HBL.out] at hv2
      subst hv2
      have HO2 : Hid (OwnL E8 w1.heap.size w2 (.slice va bl vc) (body m)) := ho2
      clear ho2 hb2 HBO c0 c1 c2 c3 c4 c5 c6 c7 c8 c9 c10 c11 c12 c13 c14 c15 c16
      obtain ⟨c0, c1, c2, c3, c4, c5, c6, c7, c8, c9, c10, c11, c12, c13, c14, c15, c16⟩ := HBX.out w2 HB2.out
      rw [HN1.out] at c5
      rw [HN2.out] at c6
      rw [HQ1.out] at c9
      rw [HQ2.out] at c14
      rw [HQ3.out] at c15
      by_cases hlong : 1024 < 9 + bl
      · have he := HEN3.out
        rw [if_pos hlong] at he
        subst he
        have hb := HBN.out
        rw [if_neg (by decide)] at hb
        subst hb
        have hbi2 : (1024 : Int) < 9 + (bl : Int) := by omega
        go_wp2_with fail
        refine bodyPost_ret (v := .tuple #[.slice none 0 0, .int .i64 6]) (by simp [results, Try.results28, go_sem]) rfl ?_
        exact HERR.out _ _ (HBW.out _ HB2.out)
      · have he := HEN3.out
        rw [if_neg hlong] at he
        subst he
        have hb := HBN.out
        rw [if_pos rfl] at hb
        subst hb
        have hbi2 : ¬ (1024 : Int) < 9 + (bl : Int) := by omega
        obtain ⟨K, hK, hK1⟩ : ∃ K : Nat, m.kind = K ∧ K < 256 := ⟨m.kind.toNat, by have := HCK.out.k; omega, by have := HCK.out.k; omega⟩
        rw [hK] at c0
        have HFR : Hid (∀ w', ∀ v, OwnL E8 w2.heap.size w' v (frame K (body m)) → Below w2.heap.size w2 w' → EncPost w (frame m.kind.toNat (body m)) 0 (.returned (.tuple #[v, .int .i64 0])) w') := fun w' v h1 h2 => ⟨v, rfl, by rw [hK, Int.toNat_natCast]; exact h1.mono (Nat.le_trans (HBW.out _ HB2.out).size (Nat.le_refl _)), (HBW.out _ HB2.out).trans (h2.mono (HBW.out _ HB2.out).size)⟩
        clear hK
        go_wp2_with fail
        refine (framed_any K hK1 va bl vc (body m) (by omega) w2 (OwnL.pc8 HO2.out) (body_u8 m)).mono ?_
        rintro e w3 ⟨v3, rfl, ho3, hb3⟩
        have HE : Hid (EncPost w (frame m.kind.toNat (body m)) 0 (.returned (.tuple #[v3, .int .i64 0])) w3) := HFR.out w3 v3 ho3 hb3
        obtain ⟨va3, vc3, hv3, -⟩ := ho3.form
        obtain ⟨vl, hvl⟩ : ∃ q, (frame K (body m)).length = q := ⟨_, rfl⟩
        rw [hvl] at hv3
        subst hv3
        clear ho3 hb3 hvl c0 c1 c2 c3 c4 c5 c6 c7 c8 c9 c10 c11 c12 c13 c14 c15 c16
        go_wp2_with fail
        refine bodyPost_ret (v := .tuple #[.slice va3 vl vc3, .int .i64 0]) (by simp [results, Try.results28, go_sem]) rfl ?_
        exact HE.out
  · have he := HEN.out
    rw [if_neg t0] at he
    subst he
    have hb := HBN.out
    rw [if_neg t0] at hb
    subst hb
    have t0b : (t != 0) = true := by simpa using t0
    go_wp2_with fail
    refine bodyPost_ret (v := .tuple #[.slice none 0 0, .int .i64 t]) (by simp [results, Try.results28, go_sem]) rfl ?_
    exact HERR.out _ _ (HBW.out _ HB1.out)
end Go.Proofs.Ytanboekdfdafmaa.Pv
