/- Taking lists off bytes: reader.numbers, prefix, prefixes. -/
import Derived.Test.YtanboekdfdafmaaPwC
namespace Go.Proofs.Ytanboekdfdafmaa.Pv
open Go.ChangeShapes Go.WideShapes Go.ChangeAt Go.RowKit Go.Joins Go.Proofs.Ytanboekdfdafmaa.PM Go.Proofs.Ytanboekdfdafmaa.Ask Go.Proofs.Ytanboekdfdafmaa.Ge
set_option linter.unusedVariables false

/-- how many bytes a reader has left -/
def rlen (br : Nat) (w : World) : Nat := match w.cell? ⟨br, 0, none⟩ with | some (.slice _ n _) => n | _ => 0
theorem Rdr.rlen {M br n c : Nat} {w : World} {a : Option Addr} {xs : List Nat} (h : Rdr M w br a n c xs) : rlen br w = n := by unfold Pv.rlen; rw [h.cell]
def NsPost (w : World) (br : Nat) (o : Option (List Int)) (e : Ending) (w' : World) : Prop :=
  match o with
  | none => e = pan ∧ Kr w br w'
  | some ns => ∃ v, e = .returned v ∧ OwnL EI w.heap.size w' v ns ∧ Kr w br w'
/-- a list of the call's own stays where the reader turns -/
theorem own_kr {α : Type} {E : El α} {N br : Nat} {w w' : World} {v : Value} {xs : List α} (h : OwnL E N w v xs) (k : Kr w br w') (hb : br < N) : OwnL E N w' v xs :=
  h.blk (fun g e => k.block g (h.row.lt g e).2 (by have := (h.row.lt g e).1; omega))
theorem Kr.grown {w w1 w2 : World} {br N : Nat} {o : Option Nat} (h : Kr w br w1) (hg : w1.grownBy w2 o) (hN : w.heap.size ≤ N) (ho : ∀ g, o = some g → N ≤ g) : Kr w br w2 :=
  ⟨h.str.grown hg (Nat.zero_le _) (fun _ _ => Nat.zero_le _), fun b hb hn => (hg.block b (Nat.lt_of_lt_of_le hb h.str.size) (fun e => by have := ho b e.symm; omega)).trans (h.block b hb hn)⟩
theorem Rdr.grown {M br n c N : Nat} {w w' : World} {a : Option Addr} {xs : List Nat} {o : Option Nat} (h : Rdr M w br a n c xs) (hg : w.grownBy w' o) (hN : br < N) (ho : ∀ g, o = some g → N ≤ g) : Rdr M w' br a n c xs :=
  h.bel ((Below.refl M w).grown hg h.mlt (fun g e => by have := ho g e; have := h.ge; omega)) (hg.block br h.lt (fun e => by have := ho br e.symm; omega))
set_option maxRecDepth 100000 in
set_option maxHeartbeats 4000000 in
theorem rnums_any (M br : Nat) (a : Option Addr) (n c : Nat) (xs : List Nat) (hbig : n ≤ 1048576) (w : World) (h : Rdr M w br a n c xs) :
    Calls Try.prog 86 #[.pointer (some ⟨br, 0, none⟩)] w (NsPost w br (rwords xs)) := by
  have H : Hid (Rdr M w br a n c xs) := h
  have hbl := h.lt
  have HL : Hid (xs.length = n) := h.len
  clear h
  go_enter Try.func86, Try.ntmps86
  go_wp2_with fail
  go_loopw [3] (fun ov wr => ∃ (i : Nat) (a' : Option Addr) (c' : Nat), 4 * i ≤ n ∧ Rdr M wr br a' (n - 4 * i) c' (xs.drop (4 * i)) ∧ OwnL EI w.heap.size wr ov (wds xs i) ∧ Kr w br wr) (fun _ wr => rlen br wr)
  case atStart => exact ⟨0, a, c, by omega, H.out, OwnL.nil _ _ _, Kr.refl _ _⟩
  case round =>
    obtain ⟨i, a1, c1, hi, hr, ho, hk⟩ := hrel
    have HR : Hid (Rdr M wr br a1 (n - 4 * i) c1 (xs.drop (4 * i))) := hr
    have HO : Hid (OwnL EI w.heap.size wr u3 (wds xs i)) := ho
    have HK : Hid (Kr w br wr) := hk
    obtain ⟨r, hr0⟩ : ∃ r, n - 4 * i = r := ⟨_, rfl⟩
    rw [hr0] at HR
    have hcell := HR.out.cell
    have hrl := HR.out.rlen
    have HRL : Hid (rlen br wr = r) := hrl
    clear hr ho hk hrl
    by_cases h0 : r = 0
    · subst h0
      have h4 : 4 * i = n := by omega
      have HQ : Hid (∀ va vc, u3 = .slice va i vc → NsPost w br (rwords xs) (.returned (.slice va i vc)) wr) := by
        intro va vc e
        unfold rwords
        rw [HL.out, if_pos (by omega), show n / 4 = i by omega]
        exact ⟨_, rfl, e ▸ HO.out, HK.out⟩
      obtain ⟨va, vc, hv3, -⟩ := HO.out.form
      rw [wds_len] at hv3
      have HQ2 := HQ.out va vc hv3
      subst hv3
      have HQ3 : Hid (NsPost w br (rwords xs) (.returned (.slice va i vc)) wr) := HQ2
      clear HQ HQ2
      go_wp2_with fail
      go_ret
      exact HQ3.out
    · have hr1 : (0 : Int) < (r : Int) := by omega
      by_cases h4 : 4 ≤ r
      · go_wp2_with fail
        refine (rnum_yes M br a1 r c1 (xs.drop (4 * i)) 4 h4 (by decide) wr HR.out).mono ?_
        rintro e w1 ⟨a2, c2, rfl, hr2, hk2⟩
        obtain ⟨t, ht⟩ : ∃ t, num ((xs.drop (4 * i)).take 4) = t := ⟨_, rfl⟩
        rw [ht]
        have HNX : Hid (wds xs i ++ [(t : Int)] = wds xs (i + 1)) := by show _ = _; rw [wds_snoc]; unfold wd; rw [ht]
        have HR2 : Hid (Rdr M w1 br a2 (n - 4 * (i + 1)) c2 (xs.drop (4 * (i + 1)))) := by
          rw [List.drop_drop, show r - 4 = n - 4 * (i + 1) by omega, show 4 * i + 4 = 4 * (i + 1) by omega] at hr2
          exact hr2
        have HO2 : Hid (OwnL EI w.heap.size w1 u3 (wds xs i)) := own_kr HO.out hk2 hbl
        have HK2 : Hid (Kr w br w1) := HK.out.trans hk2
        obtain ⟨W, hW⟩ : ∃ W, w1.alloc (Obj.cells #[.int .i64 (t : Int)] 3) = W := ⟨_, rfl⟩
        have HWE : Hid (w1.alloc (Obj.cells (EI.enc (t : Int)).toArray EI.e) = W) := hW
        have hbl1 : Below w1.heap.size w1 W := by rw [← hW]; exact (Below.refl _ w1).alloc (Nat.le_refl _) _
        have HWA : Hid (OwnL EI w.heap.size W u3 (wds xs i)) := HO2.out.bel hbl1
        have HWK : Hid (Kr w br W) := HK2.out.bel hbl1
        have HWR : Hid (Rdr M W br a2 (n - 4 * (i + 1)) c2 (xs.drop (4 * (i + 1)))) := HR2.out.bel2 hbl1
        have hNW : w.heap.size ≤ W.heap.size := HWK.out.str.size
        have hby : (wds xs i).length ≤ 1099511627775 := by rw [wds_len]; omega
        obtain ⟨ys, hys⟩ : ∃ ys, wds xs i = ys := ⟨_, rfl⟩
        rw [hys] at HWA HNX hby
        clear hr2 hk2 hbl1 ht HO2 HK2 HR2 hys hcell
        go_wp2_with (at_builtin; refine list_app1 EI rfl _ _ 50 rfl rfl w.heap.size u3 ys (t : Int) hby (w := w1) W rfl HWA.out rfl hNW HWE.out.symm ?_)
        intro v' w' ho' hg' hat'
        have HO' : Hid (OwnL EI w.heap.size w' v' (wds xs (i + 1))) := by have := ho'.out; rw [HNX.out] at this; exact this
        have hge : ∀ g, u3.ownBlock = some g → w.heap.size ≤ g := fun g e => (HWA.out.row.lt g e).1
        have HK' : Hid (Kr w br w') := HWK.out.grown hg'.out (Nat.le_refl _) hge
        have HR' : Hid (Rdr M w' br a2 (n - 4 * (i + 1)) c2 (xs.drop (4 * (i + 1)))) := HWR.out.grown hg'.out hbl hge
        clear ho' hg' hat' hge
        go_wp2_with fail
        exact ⟨⟨i + 1, a2, c2, by omega, HR'.out, HO'.out, HK'.out⟩, by rw [HR'.out.rlen, HRL.out]; omega⟩
      · have HQ : Hid (NsPost w br (rwords xs) pan wr) := by
          show NsPost _ _ _ _ _
          unfold rwords
          rw [HL.out, if_neg (by omega)]
          exact ⟨rfl, HK.out⟩
        unfold pan at HQ
        go_wp2_with fail
        refine (rnum_no M br a1 r c1 (xs.drop (4 * i)) 4 (by omega) wr HR.out).mono ?_
        rintro e w1 ⟨rfl, hw1⟩
        rw [hw1]
        clear hw1 w1
        unfold pan
        go_wp2_with fail
        exact ⟨rfl, HQ.out⟩
def PfPost (M : Nat) (w : World) (br : Nat) (o : Option ((Int × Int) × List Nat)) (e : Ending) (w' : World) : Prop :=
  match o with
  | none => e = pan ∧ Kr w br w'
  | some (p, r) => ∃ a' c', e = .returned (.agg #[.int .u32 p.1, .int .i64 p.2]) ∧ Rdr M w' br a' r.length c' r ∧ Kr w br w'
theorem num_one {d : Nat} : num [d] = d := by simp [num]
theorem num_lt1 {xs : List Nat} (hu : ∀ d ∈ xs, d < 256) : num (xs.take 1) < 256 := by
  by_cases h : 1 ≤ xs.length
  · exact num_lt hu 1 h
  · have : xs = [] := List.length_eq_zero_iff.1 (by omega)
    subst this
    decide
theorem num_ltk {xs : List Nat} (hu : ∀ d ∈ xs, d < 256) (k : Nat) (h : k ≤ xs.length) (h4 : k ≤ 4) : num (xs.take k) < 4294967296 ∧ num (xs.take k) * 2 ^ (32 - 8 * k) < 4294967296 := by
  have h1 := num_lt hu k h
  have h5 : k = 0 ∨ k = 1 ∨ k = 2 ∨ k = 3 ∨ k = 4 := by omega
  rcases h5 with rfl | rfl | rfl | rfl | rfl <;> simp only [Nat.reducePow, Nat.reduceMul, Nat.reduceSub] at * <;> omega
theorem Kr.other {w w1 w2 : World} {br sa : Nat} (h : Kr w br w1) (k : Kr w1 sa w2) (hs : w.heap.size ≤ sa) : Kr w br w2 := ⟨h.str.trans k.str, fun b hb hn => (k.block b (Nat.lt_of_lt_of_le hb h.str.size) (by omega)).trans (h.block b hb hn)⟩
theorem Rdr.other {M br n c sa : Nat} {w w' : World} {a : Option Addr} {xs : List Nat} (h : Rdr M w br a n c xs) (k : Kr w sa w') (hne : br ≠ sa) (hm : M ≤ sa) : Rdr M w' br a n c xs :=
  h.bel (k.below hm h.mlt) (k.block br h.lt hne)
set_option maxRecDepth 100000 in
set_option maxHeartbeats 4000000 in
theorem rprefix_any (M br : Nat) (a : Option Addr) (n c : Nat) (xs : List Nat) (w : World) (h : Rdr M w br a n c xs) :
    Calls Try.prog 84 #[.pointer (some ⟨br, 0, none⟩)] w (PfPost M w br (rpfx xs)) := by
  have H : Hid (Rdr M w br a n c xs) := h
  have hbl := h.lt
  have HL : Hid (xs.length = n) := h.len
  clear h
  go_enter Try.func84, Try.ntmps84
  go_upto_region 1 with fail
  obtain ⟨w0, hw0⟩ : ∃ w0, w.alloc (Obj.cells #[.int .u32 0, .int .i64 0] 49) = w0 := ⟨_, rfl⟩
  obtain ⟨sa, hsa⟩ : ∃ k, w.heap.size = k := ⟨_, rfl⟩
  have hb0 : Below w.heap.size w w0 := by rw [← hw0]; exact (Below.refl _ w).alloc (Nat.le_refl _) _
  have HN : Hid (w0.heap[sa]? = some (Obj.cells #[.int .u32 0, .int .i64 0] 49)) := by show _ = _; rw [← hw0, ← hsa]; exact World.alloc_heap_new w _
  have HR0 : Hid (Rdr M w0 br a n c xs) := H.out.bel2 hb0
  have HK0 : Hid (Kr w br w0) := (Kr.refl w br).bel hb0
  have HSA : Hid (w.heap.size = sa) := hsa
  have hsb : ¬ sa = br := by omega
  have hsl : sa < w0.heap.size := by have := hw0; rw [← this]; simp; omega
  rw [hw0, hsa]
  clear hw0 hsa hb0
  by_cases h1 : 1 ≤ n
  · go_wp2_with fail
    refine (rnum_yes M br a n c xs 1 h1 (by decide) w0 HR0.out).mono ?_
    rintro e w1 ⟨a1, c1, rfl, hr1, hk1⟩
    obtain ⟨t, ht⟩ : ∃ t, num (xs.take 1) = t := ⟨_, rfl⟩
    rw [ht]
    have HT : Hid (num (xs.take 1) = t) := ht
    have hx1 : 1 ≤ xs.length := by rw [HL.out]; exact h1
    have HR1 : Hid (Rdr M w1 br a1 (n - 1) c1 (xs.drop 1)) := hr1
    have HK1 : Hid (Kr w br w1) := HK0.out.trans hk1
    have HN1 : Hid (w1.heap[sa]? = some (Obj.cells #[.int .u32 0, .int .i64 0] 49)) := (hk1.block sa hsl hsb).trans HN.out
    have hsl1 : sa < w1.heap.size := Nat.lt_of_lt_of_le hsl hk1.str.size
    have hl1 : (xs.drop 1).length = n - 1 := hr1.len
    clear ht hr1 hk1 HR0 HK0 HN
    by_cases h32 : 32 < t
    · have h32i : (32 : Int) < (t : Int) := by omega
      have HQ : Hid (PfPost M w br (rpfx xs) pan w1) := by
        show PfPost _ _ _ _ _ _
        rw [rpfx_big hx1 HT.out h32]
        exact ⟨rfl, HK1.out⟩
      unfold pan at HQ
      go_wp2_with fail
      exact ⟨rfl, HQ.out⟩
    · have h32i : ¬ (32 : Int) < (t : Int) := by omega
      obtain ⟨z, hz⟩ : ∃ z, bsz t = z := ⟨_, rfl⟩
      have hz4 : z ≤ 4 := by rw [← hz]; exact bsz_le (by omega)
      have HZ : Hid (bsz t = z) := hz
      clear hz
      go_wp2_with fail
      refine (bytesOf_any t (by omega) z HZ.out _).mono ?_
      rintro e w5 ⟨rfl, hw5⟩
      rw [hw5]
      clear hw5 w5
      by_cases hzn : z ≤ n - 1
      · obtain ⟨hq1, hq2⟩ := num_ltk (xs := xs.drop 1) HR1.out.u8 z (by rw [hl1]; exact hzn) hz4
        go_wp2_with fail
        refine (rnum_yes M br a1 (n - 1) c1 (xs.drop 1) z hzn (by omega) w1 HR1.out).mono ?_
        rintro e w2 ⟨a2, c2, rfl, hr2, hk2⟩
        obtain ⟨q, hq⟩ : ∃ q, num ((xs.drop 1).take z) = q := ⟨_, rfl⟩
        rw [hq] at hq1 hq2 ⊢
        have HN2 : Hid (w2.heap[sa]? = some (Obj.cells #[.int .u32 0, .int .i64 0] 49)) := (hk2.block sa hsl1 hsb).trans HN1.out
        have hsl2 : sa < w2.heap.size := Nat.lt_of_lt_of_le hsl1 hk2.str.size
        have HK2 : Hid (Kr w br w2) := HK1.out.trans hk2
        have HR2 : Hid (Rdr M w2 br a2 (n - 1 - z) c2 ((xs.drop 1).drop z)) := hr2
        have HQ : Hid (∀ W, Kr w2 sa W → PfPost M w br (rpfx xs) (.returned (.agg #[.int .u32 ((q * 2 ^ (32 - 8 * z) : Nat) : Int), .int .i64 (t : Int)])) W) := by
          intro W hW
          show PfPost _ _ _ _ _ _
          rw [rpfx_ok hx1 HT.out h32 HZ.out (by rw [hl1]; exact hzn) hq]
          have e2 : ((xs.drop 1).drop z).length = n - 1 - z := by rw [List.length_drop, hl1]
          have hge := HR2.out.ge
          have hs5 := HSA.out
          refine ⟨a2, c2, rfl, ?_, HK2.out.other hW (by omega)⟩
          rw [e2]
          exact HR2.out.other hW (fun e => hsb e.symm) (by omega)
        have w3 : IntKind.i64.wrap (8 * (z : Int)) = ((8 * z : Nat) : Int) := by rw [IntWalk.i64_in _ (by omega)]; omega
        have w4 : IntKind.i64.wrap (32 - ((8 * z : Nat) : Int)) = ((32 - 8 * z : Nat) : Int) := by rw [IntWalk.i64_in _ (by omega)]; omega
        have hqw : IntKind.u32.wrap (q : Int) = (q : Int) := by rw [IntKind.wrap_u32]; omega
        have hmin : min (32 - 8 * z) 32 = 32 - 8 * z := by omega
        have hqm : (q : Int) * 2 ^ (32 - 8 * z) % 4294967296 = (q : Int) * 2 ^ (32 - 8 * z) := by
          have e5 : (q : Int) * 2 ^ (32 - 8 * z) = ((q * 2 ^ (32 - 8 * z) : Nat) : Int) := by simp
          rw [e5]
          omega
        have f0 : w2.frozen? ⟨sa, 0, none⟩ = false := by unfold World.frozen?; rw [HN2.out]; rfl
        have f1 : w2.frozen? ⟨sa, 1, none⟩ = false := by unfold World.frozen?; rw [HN2.out]; rfl
        have c0 : w2.cell? ⟨sa, 0, none⟩ = some (.int .u32 0) := by unfold World.cell?; rw [HN2.out]; rfl
        have c1' : w2.cell? ⟨sa, 1, none⟩ = some (.int .i64 0) := by unfold World.cell?; rw [HN2.out]; rfl
        clear hq hr2 hk2 HR1 HK1 HN1 HN2 HR2 HK2
        go_wp2_with fail
        refine bodyPost_ret (v := .agg #[.int .u32 ((q * 2 ^ (32 - 8 * z) : Nat) : Int), .int .i64 (t : Int)]) (by simp [results, Try.results84, go_sem, c0, c1']) rfl ?_
        exact HQ.out _ ((Kr.set _ _ _ _).trans (Kr.set _ _ _ _))
      · have HQ : Hid (PfPost M w br (rpfx xs) pan w1) := by
          show PfPost _ _ _ _ _ _
          rw [rpfx_short hx1 HT.out h32 HZ.out (by rw [hl1]; exact hzn)]
          exact ⟨rfl, HK1.out⟩
        unfold pan at HQ
        go_wp2_with fail
        refine (rnum_no M br a1 (n - 1) c1 (xs.drop 1) z (by omega) w1 HR1.out).mono ?_
        rintro e w2 ⟨rfl, hw2⟩
        rw [hw2]
        clear hw2 w2
        unfold pan
        go_wp2_with fail
        exact ⟨rfl, HQ.out⟩
  · have HQ : Hid (PfPost M w br (rpfx xs) pan w0) := by
      show PfPost _ _ _ _ _ _
      rw [rpfx_nil (by rw [HL.out]; exact h1)]
      exact ⟨rfl, HK0.out⟩
    unfold pan at HQ
    go_wp2_with fail
    refine (rnum_no M br a n c xs 1 (by omega) w0 HR0.out).mono ?_
    rintro e w1 ⟨rfl, hw1⟩
    rw [hw1]
    clear hw1 w1
    unfold pan
    go_wp2_with fail
    exact ⟨rfl, HQ.out⟩
def PsPost (w : World) (br : Nat) (o : Option (List (Int × Int))) (e : Ending) (w' : World) : Prop :=
  match o with
  | none => e = pan ∧ Kr w br w'
  | some ps => ∃ v, e = .returned v ∧ OwnL E2 w.heap.size w' v ps ∧ Kr w br w'
/-- what was read so far is at the beginning of what is read -/
def Soff (xs : List Nat) (ps : List (Int × Int)) (r : List Nat) : Prop := pfxsR xs = match pfxsR r with
  | none => none
  | some l => some (ps ++ l)
theorem Soff.done {xs : List Nat} {ps : List (Int × Int)} {r : List Nat} (h : Soff xs ps r) (h0 : r.length = 0) : pfxsR xs = some ps := by
  have : r = [] := List.length_eq_zero_iff.1 h0
  subst this
  unfold Soff at h
  rw [h, pfxsR_nil]
  simp
theorem Soff.none {xs : List Nat} {ps : List (Int × Int)} {r : List Nat} (h : Soff xs ps r) (h0 : 0 < r.length) (hn : rpfx r = none) : pfxsR xs = none := by
  unfold Soff at h
  rw [h, pfxsR_cons h0, hn]
theorem Soff.next {xs : List Nat} {ps : List (Int × Int)} {r r2 : List Nat} {p : Int × Int} (h : Soff xs ps r) (h0 : 0 < r.length) (hn : rpfx r = some (p, r2)) : Soff xs (ps ++ [p]) r2 := by
  unfold Soff at h ⊢
  rw [h, pfxsR_cons h0, hn]
  dsimp only
  cases pfxsR r2 with
  | none => rfl
  | some l => simp
set_option maxRecDepth 100000 in
set_option maxHeartbeats 4000000 in
theorem rprefixes_any (M br : Nat) (a : Option Addr) (n c : Nat) (xs : List Nat) (hbig : n ≤ 1048576) (w : World) (h : Rdr M w br a n c xs) :
    Calls Try.prog 82 #[.pointer (some ⟨br, 0, none⟩)] w (PsPost w br (pfxsR xs)) := by
  have H : Hid (Rdr M w br a n c xs) := h
  have hbl := h.lt
  have HL : Hid (xs.length = n) := h.len
  clear h
  go_enter Try.func82, Try.ntmps82
  go_wp2_with fail
  go_loopw [3] (fun ov wr => ∃ (r : List Nat) (ps : List (Int × Int)) (a' : Option Addr) (c' : Nat), r.length + ps.length ≤ n ∧ Rdr M wr br a' r.length c' r ∧ OwnL E2 w.heap.size wr ov ps ∧ Kr w br wr ∧ Soff xs ps r) (fun _ wr => rlen br wr)
  case atStart => exact ⟨xs, [], a, c, by rw [HL.out]; simp, by rw [HL.out]; exact H.out, OwnL.nil _ _ _, Kr.refl _ _, by unfold Soff; cases pfxsR xs <;> rfl⟩
  case round =>
    obtain ⟨r, ps, a1, c1, hle, hr, ho, hk, hso⟩ := hrel
    have HO : Hid (OwnL E2 w.heap.size wr u3 ps) := ho
    have HK : Hid (Kr w br wr) := hk
    have HS : Hid (Soff xs ps r) := hso
    obtain ⟨k, hk0⟩ : ∃ k, r.length = k := ⟨_, rfl⟩
    have HKL : Hid (r.length = k) := hk0
    rw [hk0] at hr hle
    have HR : Hid (Rdr M wr br a1 k c1 r) := hr
    have hcell := HR.out.cell
    have HRL : Hid (rlen br wr = k) := hr.rlen
    clear hr ho hk hso hk0
    by_cases h0 : k = 0
    · subst h0
      obtain ⟨va, vc, hv3, -⟩ := HO.out.form
      have HQ3 : Hid (PsPost w br (pfxsR xs) (.returned (.slice va ps.length vc)) wr) := by
        show PsPost _ _ _ _ _
        rw [HS.out.done HKL.out]
        exact ⟨_, rfl, hv3 ▸ HO.out, HK.out⟩
      subst hv3
      obtain ⟨L, hL⟩ : ∃ L, ps.length = L := ⟨_, rfl⟩
      rw [hL] at HQ3 ⊢
      clear HO HS hL
      go_wp2_with fail
      go_ret
      exact HQ3.out
    · have hr1 : (0 : Int) < (k : Int) := by omega
      have hpos : 0 < r.length := by rw [HKL.out]; omega
      go_wp2_with fail
      refine (rprefix_any M br a1 k c1 r wr HR.out).mono ?_
      intro e w1 hpost
      cases hx : rpfx r with
      | none =>
        rw [hx] at hpost
        obtain ⟨rfl, hk1⟩ := hpost
        have HQ : Hid (PsPost w br (pfxsR xs) pan w1) := by
          show PsPost _ _ _ _ _
          rw [HS.out.none hpos hx]
          exact ⟨rfl, HK.out.trans hk1⟩
        unfold pan at HQ ⊢
        clear hk1 hx
        go_wp2_with fail
        exact ⟨rfl, HQ.out⟩
      | some q =>
        obtain ⟨p, r2⟩ := q
        rw [hx] at hpost
        obtain ⟨a2, c2, rfl, hr2, hk2⟩ := hpost
        have HS2 : Hid (Soff xs (ps ++ [p]) r2) := HS.out.next hpos hx
        have hlt2 : r2.length < k := by rw [← HKL.out]; exact rpfx_lt hx
        have HR2 : Hid (Rdr M w1 br a2 r2.length c2 r2) := hr2
        have HO2 : Hid (OwnL E2 w.heap.size w1 u3 ps) := own_kr HO.out hk2 hbl
        have HK2 : Hid (Kr w br w1) := HK.out.trans hk2
        obtain ⟨p1, p2⟩ := p
        obtain ⟨W, hW⟩ : ∃ W, w1.alloc (Obj.cells #[.int .u32 p1, .int .i64 p2] 49) = W := ⟨_, rfl⟩
        have HWE : Hid (w1.alloc (Obj.cells (E2.enc (p1, p2)).toArray E2.e) = W) := hW
        have hbl1 : Below w1.heap.size w1 W := by rw [← hW]; exact (Below.refl _ w1).alloc (Nat.le_refl _) _
        have HWA : Hid (OwnL E2 w.heap.size W u3 ps) := HO2.out.bel hbl1
        have HWK : Hid (Kr w br W) := HK2.out.bel hbl1
        have HWR : Hid (Rdr M W br a2 r2.length c2 r2) := HR2.out.bel2 hbl1
        have hNW : w.heap.size ≤ W.heap.size := HWK.out.str.size
        have hby : ps.length ≤ 1099511627775 := by omega
        dsimp only
        clear hr2 hk2 hbl1 HO2 HK2 HR2 hcell hx
        go_wp2_with (at_builtin; refine list_app1 E2 rfl _ _ 46 rfl rfl w.heap.size u3 ps (p1, p2) hby (w := w1) W rfl HWA.out rfl hNW HWE.out.symm ?_)
        intro v' w' ho' hg' hat'
        have HO' : Hid (OwnL E2 w.heap.size w' v' (ps ++ [(p1, p2)])) := ho'
        have hge : ∀ g, u3.ownBlock = some g → w.heap.size ≤ g := fun g e => (HWA.out.row.lt g e).1
        have HK' : Hid (Kr w br w') := HWK.out.grown hg'.out (Nat.le_refl _) hge
        have HR' : Hid (Rdr M w' br a2 r2.length c2 r2) := HWR.out.grown hg'.out hbl hge
        have HRN : Hid (rlen br w' = r2.length) := HR'.out.rlen
        clear ho' hg' hat' hge
        go_wp2_with fail
        exact ⟨⟨r2, ps ++ [(p1, p2)], a2, c2, by rw [List.length_append]; simp; omega, HR'.out, HO'.out, HK'.out, HS2.out⟩, by rw [HRN.out, HRL.out]; omega⟩
end Go.Proofs.Ytanboekdfdafmaa.Pv
