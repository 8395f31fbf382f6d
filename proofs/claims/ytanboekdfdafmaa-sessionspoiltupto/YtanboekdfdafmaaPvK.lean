/- One attribute is put: the function literal of attributesOf. -/
import Derived.Test.YtanboekdfdafmaaPvJ
namespace Go.Proofs.Ytanboekdfdafmaa.Pv
open Go.ChangeShapes Go.WideShapes Go.ChangeAt Go.RowKit Go.Joins Go.Proofs.Ytanboekdfdafmaa.PM Go.Proofs.Ytanboekdfdafmaa.Ask Go.Proofs.Ytanboekdfdafmaa.Ge
set_option linter.unusedVariables false

/-- the bytes in a box, and what else has not turned -/
structure AtB (N bb : Nat) (w w' : World) (bs : List Nat) : Prop where
  row : ∃ v, w'.cell? ⟨bb, 0, none⟩ = some v ∧ OwnL E8 N w' v bs
  fz : w'.frozen? ⟨bb, 0, none⟩ = false
  str : Below 0 w w'
  block : ∀ k, k < N → k ≠ bb → w'.heap[k]? = w.heap[k]?
theorem AtB.trans {N bb : Nat} {w w1 w2 : World} {bs cs : List Nat} (h : AtB N bb w w1 bs) (k : AtB N bb w1 w2 cs) : AtB N bb w w2 cs :=
  ⟨k.row, k.fz, h.str.trans k.str, fun i hi hne => (k.block i hi hne).trans (h.block i hi hne)⟩
theorem wordsB_snoc (size : Nat) (xs : List Int) (i : Nat) (h : i < xs.length) : wordsB size (xs.take (i + 1)) = wordsB size (xs.take i) ++ big size xs[i].toNat := by
  unfold wordsB
  rw [List.take_succ_eq_append_getElem h, List.flatMap_append]
  simp
theorem wordsB_len (size : Nat) : ∀ (xs : List Int), (wordsB size xs).length = size * xs.length
  | [] => by simp [wordsB]
  | x :: xs => by
    have e : wordsB size (x :: xs) = big size x.toNat ++ wordsB size xs := rfl
    rw [e, List.length_append, big_len, wordsB_len size xs, List.length_cons, Nat.mul_succ]
    omega
set_option maxRecDepth 100000 in
set_option maxHeartbeats 8000000 in
theorem attr_any (N bb : Nat) (v : Value) (bs : List Nat) (kind size : Nat) (hk : kind < 256) (hs : size ≤ 8) (there : Bool) (a : Option Addr) (n cap : Nat) (xs : List Int) (w : World) (hx : Lst EI w a xs) (hn : xs.length = n) (h0 : ∀ x ∈ xs, 0 ≤ x ∧ x < 9223372036854775808) (hbl : bs.length ≤ 100000) (hnl : n ≤ 1000) (hB : bb < N) (hN : N ≤ w.heap.size) (hc : w.cell? ⟨bb, 0, none⟩ = some v) (hf : w.frozen? ⟨bb, 0, none⟩ = false) (ho : OwnL E8 N w v bs) :
    Calls Try.prog 68 #[.int .i64 (kind : Int), .int .i64 (size : Int), .bool there, .slice a n cap, .pointer (some ⟨bb, 0, none⟩)] w fun e w' => (∃ u, e = .returned u) ∧ AtB N bb w w' (bs ++ attrIf kind size there xs) := by
  have HX : Hid (Lst EI w a xs) := hx
  have HN : Hid (xs.length = n) := hn
  have H0 : Hid (∀ x ∈ xs, 0 ≤ x ∧ x < 9223372036854775808) := h0
  have HO : Hid (OwnL E8 N w v bs) := ho
  clear hx hn h0 ho
  cases there with
  | false =>
    have HE : Hid (AtB N bb w w (bs ++ attrIf kind size false xs)) := by
      unfold attrIf
      simp only [Bool.false_eq_true, if_false, List.append_nil]
      exact ⟨⟨v, hc, HO.out⟩, hf, Below.refl _ _, fun _ _ _ => rfl⟩
    go_enter Try.func68, Try.ntmps68
    go_wp2_with fail
    refine ⟨rfl, .tuple #[], ?_, ⟨_, rfl⟩, HE.out⟩
    simp [results, Try.results68, go_sem]
  | true =>
    go_enter Try.func68, Try.ntmps68
    go_wp2_with fail
    go_loopw [9, 16] (fun bv iv wr => ∃ i : Nat, i ≤ n ∧ iv = .int .i64 (i : Int) ∧ OwnL E8 w.heap.size wr bv (wordsB size (xs.take i)) ∧ Below w.heap.size w wr) (fun _ i _ => n - (intOf i).toNat)
    case atStart => exact ⟨0, by omega, rfl, OwnL.nil _ _ _, Below.refl _ _⟩
    case round =>
      obtain ⟨i, hi, rfl, ho, hb⟩ := hrel
      have HOI : Hid (OwnL E8 w.heap.size wr u9 (wordsB size (xs.take i))) := ho
      have HBI : Hid (Below w.heap.size w wr) := hb
      clear ho hb
      by_cases hlt : i < n
      · have hil : i < xs.length := by rw [HN.out]; exact hlt
        obtain ⟨b, o, rfl, hbb, c0⟩ := lstI (HX.out.bel HBI.out) i hil
        have h0i := H0.out _ (List.getElem_mem hil)
        have HNX : Hid (wordsB size (xs.take (i + 1)) = wordsB size (xs.take i) ++ big size xs[i].toNat) := wordsB_snoc size xs i hil
        have hlen : (wordsB size (xs.take i)).length ≤ 8000 := by
          rw [wordsB_len, List.length_take]
          have : size * min i xs.length ≤ 8 * 1000 := Nat.mul_le_mul hs (by omega)
          omega
        obtain ⟨x, hxx⟩ : ∃ x, xs[i] = x := ⟨_, rfl⟩
        rw [hxx] at c0 h0i HNX
        obtain ⟨q, rfl⟩ : ∃ q : Nat, x = q := ⟨x.toNat, by omega⟩
        rw [Int.toNat_natCast] at HNX
        have hq : q < 9223372036854775808 := by omega
        have hii : (i : Int) < n := by omega
        have ii0 : (0 : Int) ≤ i := by omega
        clear hxx h0i
        go_wp2_with fail
        refine (put_any w.heap.size u9 (wordsB size (xs.take i)) size q hs hq (by omega) wr HBI.out.size HOI.out).mono ?_
        rintro e w1 ⟨v1, rfl, ho1, hk1⟩
        have HB1 : Hid (Below w.heap.size w w1) := HBI.out.trans hk1
        have HO1 : Hid (OwnL E8 w.heap.size w1 v1 (wordsB size (xs.take (i + 1)))) := by rw [HNX.out]; exact ho1
        clear ho1 hk1
        go_wp2_with fail
        exact ⟨⟨i + 1, by omega, by simp, HO1.out, HB1.out⟩, by simp [intOf]; omega⟩
      · obtain rfl : i = n := by omega
        have HE : Hid (OwnL E8 w.heap.size wr u9 (wordsB size xs)) := by
          have h1 := HOI.out
          rw [List.take_of_length_le (by have := HN.out; omega)] at h1
          exact h1
        obtain ⟨va, vc, hv9, -, -, hvb⟩ := HE.out.form
        obtain ⟨vl, hvl⟩ : ∃ q, (wordsB size xs).length = q := ⟨_, rfl⟩
        have hvl8 : vl ≤ 8000 := by
          rw [← hvl, wordsB_len]
          have : size * xs.length ≤ 8 * 1000 := Nat.mul_le_mul hs (by rw [HN.out]; omega)
          omega
        rw [hvl] at hv9
        subst hv9
        have HVB : Hid (∀ b o, va = some ⟨b, o, none⟩ → o = 0 ∧ w.heap.size ≤ b ∧ b < wr.heap.size) := hvb
        have hbw : bb < w.heap.size := by omega
        have d0 : wr.cell? ⟨bb, 0, none⟩ = some v := (World.cell?_of_block (w := w) (HBI.out.block bb hbw)).trans hc
        have dz : wr.frozen? ⟨bb, 0, none⟩ = false := (World.frozen?_of_block (w := w) (HBI.out.block bb hbw)).trans hf
        have HOV : Hid (OwnL E8 N wr v bs) := HO.out.bel HBI.out
        have HVL : Hid (∀ g, v.ownBlock = some g → N ≤ g ∧ g < w.heap.size) := fun g e => HO.out.row.lt g e
        have hNr : N ≤ wr.heap.size := Nat.le_trans hN HBI.out.size
        clear HOI hvb hvl hc hf
        go_wp2_with fail
        refine (putk_any N v bs 1 kind (by decide) (by omega) (by omega) wr hNr HOV.out).mono ?_
        rintro e w1 ⟨v1, rfl, ho1, hk1⟩
        have HK1 : Hid (Kp wr v.ownBlock w1 v1.ownBlock) := hk1
        have HO1 : Hid (OwnL E8 N w1 v1 (bs ++ big 1 kind)) := ho1
        have HP1 : Hid (Pc8 w1 va vl vc (wordsB size xs)) := (OwnL.pc8 HE.out).keep hk1.str.size (fun b o e hb hx => hk1.block b hb (fun e2 => by have h1 := HVL.out b e2.symm; have h2 := HVB.out b o e; omega))
        have HN1 : Hid (∀ b o, va = some ⟨b, o, none⟩ → 0 < (wordsB size xs).length → ¬ v1.ownBlock = some b) := fun b o e hx e2 => by
          have h2 := HVB.out b o e
          rcases hk1.now with e3 | ⟨g, e3, hg⟩
          · have h1 := HVL.out b (by rw [← e3]; exact e2)
            omega
          · rw [e3] at e2
            cases e2
            omega
        have hN1 : N ≤ w1.heap.size := Nat.le_trans hNr hk1.str.size
        clear ho1 hk1 HE HVB
        go_wp2_with fail
        refine (putPiece_any N v1 (bs ++ big 1 kind) (by rw [List.length_append, big_len]; omega) va vl vc (wordsB size xs) (by omega) w1 hN1 HO1.out HP1.out HN1.out).mono ?_
        rintro e w2 ⟨v2, rfl, ho2, hk2⟩
        have HK2 : Hid (Kp wr v.ownBlock w2 v2.ownBlock) := HK1.out.trans hk2
        have HO2 : Hid (OwnL E8 N w2 v2 (bs ++ attrIf kind size true xs)) := by
          unfold attrIf attr
          rw [if_pos rfl]
          rw [List.append_assoc] at ho2
          exact ho2
        have HNB : Hid (¬ v.ownBlock = some bb) := fun e => by have := (HVL.out bb e).1; omega
        have hbr : bb < wr.heap.size := by have := HBI.out.size; omega
        have d1 : w2.cell? ⟨bb, 0, none⟩ = some v := (World.cell?_of_block (w := wr) (HK2.out.block bb hbr (fun e => HNB.out e.symm))).trans d0
        have dz1 : w2.frozen? ⟨bb, 0, none⟩ = false := (World.frozen?_of_block (w := wr) (HK2.out.block bb hbr (fun e => HNB.out e.symm))).trans dz
        obtain ⟨va2, vc2, hv2, -⟩ := HO2.out.form
        obtain ⟨vl2, hvl2⟩ : ∃ q, (bs ++ attrIf kind size true xs).length = q := ⟨_, rfl⟩
        rw [hvl2] at hv2
        subst hv2
        have HFIN : Hid (AtB N bb w (w2.setCell ⟨bb, 0, none⟩ (.slice va2 vl2 vc2)) (bs ++ attrIf kind size true xs)) := by
          refine ⟨⟨_, World.cell?_setCell_same' _ _ _ (by rw [d1]; rfl), HO2.out.blk (fun g e => ?_)⟩, ?_, ?_, fun k hk hne => ?_⟩
          · exact Below.heap_setCell w2 ⟨bb, 0, none⟩ _ g (fun e3 => by have := (HO2.out.row.lt g e).1; subst e3; omega)
          · rw [World.frozen?_setCell]; exact dz1
          · exact ((HBI.out.mono (Nat.zero_le _)).trans HK2.out.str).setCell (p := ⟨bb, 0, none⟩) (Nat.zero_le _) _
          · refine (Below.heap_setCell w2 ⟨bb, 0, none⟩ _ k hne).trans (((HK2.out.block k (by omega) (fun e => ?_))).trans (HBI.out.block k (by omega)))
            have := (HVL.out k e.symm).1
            omega
        clear ho2 hk2 HK1 HK2 HO2 HP1 HN1 hvl2 d0 dz
        go_wp2_with fail
        refine ⟨rfl, .tuple #[], ?_, ⟨_, rfl⟩, HFIN.out⟩
        simp [results, Try.results68, go_sem]
end Go.Proofs.Ytanboekdfdafmaa.Pv
