/- The document's bytes: pvBytes, pvWords, pvAttribute. The document's pvRange. The document's prefixes as bytes, and its sum. -/
import Derived.Test.YtghlgkpfcpcopaaMgA
namespace Go.Proofs.Ytghlgkpfcpcopaa.Pv
open Go.ChangeShapes Go.WideShapes Go.ChangeAt Go.RowKit Go.Joins Go.Proofs.Ytghlgkpfcpcopaa.PM Go.Proofs.Ytghlgkpfcpcopaa.Ask Go.Proofs.Ytghlgkpfcpcopaa.Ge
set_option linter.unusedVariables false

set_option maxRecDepth 100000 in
set_option maxHeartbeats 4000000 in
theorem rbytes_any (n size : Nat) (hs8 : size ≤ 8) (hn : n < 9223372036854775808) (w : World) :
    Calls Try.prog 46 #[.int .i64 (n : Int), .int .i64 (size : Int)] w fun e w' => ∃ v', e = .returned v' ∧ OwnL E8 w.heap.size w' v' (big size n) ∧ Below w.heap.size w w' := by
  have ws : IntKind.i64.wrap ((size : Int) - 1) = (size : Int) - 1 := by rw [IntWalk.i64_in _ (by omega)]
  go_enter Try.func46, Try.ntmps46
  go_wp2_with fail
  go_loopw [5, 6] (fun bv iv wr => ∃ (k : Nat), k ≤ size ∧ iv = .int .i64 ((size : Int) - 1 - k) ∧ OwnL E8 w.heap.size wr bv ((big size n).take k) ∧ Below w.heap.size w wr) (fun _ i _ => (intOf i + 1).toNat)
  case atStart => exact ⟨0, by omega, by simp, OwnL.nil _ _ _, Below.refl _ _⟩
  case round =>
    obtain ⟨k, hk, rfl, hob, hkp⟩ := hrel
    have HO : Hid (OwnL E8 w.heap.size wr u5 ((big size n).take k)) := hob
    have HK : Hid (Below w.heap.size w wr) := hkp
    clear hob hkp
    by_cases hlt : k < size
    · obtain ⟨j, hj⟩ : ∃ j, size - 1 - k = j := ⟨_, rfl⟩
      have hjj : (size : Int) - 1 - (k : Int) = (j : Int) := by omega
      have hj0 : (0 : Int) ≤ (j : Int) := by omega
      have hj8 : j ≤ 7 := by omega
      obtain ⟨bs1, hbs⟩ : ∃ b, (big size n).take k = b := ⟨_, rfl⟩
      have hl1 : bs1.length ≤ 8 := by rw [← hbs, List.length_take]; omega
      obtain ⟨c, hc⟩ : ∃ c, n / 2 ^ (8 * j) % 256 = c := ⟨_, rfl⟩
      have HNX : Hid (bs1 ++ [c] = (big size n).take (k + 1)) := by
        show _ = _
        rw [← hbs, List.take_succ_eq_append_getElem (by simp [big]; exact hlt)]
        simp [big, hc, hj]
      rw [hbs] at HO
      rw [hjj]
      have w3 : IntKind.i64.wrap (8 * (j : Int)) = ((8 * j : Nat) : Int) := by rw [IntWalk.i64_in _ (by omega)]; omega
      have w4 : IntKind.i64.wrap ((j : Int) - 1) = (j : Int) - 1 := by rw [IntWalk.i64_in _ (by omega)]
      have hcv : (n : Int) / 2 ^ (8 * j) % 256 = (c : Int) := by
        rw [← hc]
        simp
      obtain ⟨W, hW⟩ : ∃ W, wr.alloc (Obj.cells #[.int .u8 (c : Int)] 5) = W := ⟨_, rfl⟩
      have HWE : Hid (wr.alloc (Obj.cells (E8.enc c).toArray E8.e) = W) := hW
      have hbl : Below wr.heap.size wr W := by rw [← hW]; exact (Below.refl _ wr).alloc (Nat.le_refl _) _
      have HWA : Hid (OwnL E8 w.heap.size W u5 bs1) := HO.out.bel hbl
      have HBW : Hid (Below w.heap.size w W) := HK.out.trans (hbl.mono HK.out.size)
      have hby : bs1.length ≤ 1099511627775 := by omega
      have HJ : Hid ((size : Int) - 1 - (k : Int) = (j : Int)) := hjj
      clear hbs hc hbl hjj ws
      go_wp2_with (at_builtin; refine list_app1 E8 rfl _ _ 22 rfl rfl w.heap.size u5 bs1 c hby (w := wr) W rfl HWA.out rfl HBW.out.size HWE.out.symm ?_)
      intro v' w' ho' hg' hat'
      have HO' : Hid (OwnL E8 w.heap.size w' v' ((big size n).take (k + 1))) := by have := ho'.out; rw [HNX.out] at this; exact this
      have HK' : Hid (Below w.heap.size w w') := HBW.out.grown hg'.out HBW.out.size (fun g e => (HWA.out.row.lt g e).1)
      clear ho' hg' hat'
      go_wp2_with fail
      refine ⟨⟨k + 1, by omega, ?_, HO'.out, HK'.out⟩, by simp [intOf]⟩
      have := HJ.out
      congr 1
      omega
    · obtain rfl : size = k := by omega
      have HE : Hid (OwnL E8 w.heap.size wr u5 (big size n)) := by
        have h1 := HO.out
        rw [List.take_of_length_le (by simp [big])] at h1
        exact h1
      have hm : (size : Int) - 1 - (size : Int) = -1 := by omega
      rw [hm]
      obtain ⟨va, vc, rfl, -⟩ := HE.out.form
      obtain ⟨vl, hvl⟩ : ∃ q, (big size n).length = q := ⟨_, rfl⟩
      rw [hvl] at HE
      rw [hvl]
      clear HO hvl ws hm
      go_wp2_with fail
      go_ret
      exact ⟨_, rfl, HE.out, HK.out⟩
set_option maxRecDepth 100000 in
set_option maxHeartbeats 8000000 in
theorem rwords_any (va : Option Addr) (cap : Nat) (xs : List Int) (n : Nat) (hn : xs.length = n) (hnl : n ≤ 100000) (w : World) (hl : Lst EI w va xs) (h0 : ∀ x ∈ xs, 0 ≤ x ∧ x < 9223372036854775808) :
    Calls Try.prog 81 #[.slice va n cap] w fun e w' => ∃ v, e = .returned v ∧ OwnL E8 w.heap.size w' v (wordsB 4 xs) ∧ Below w.heap.size w w' := by
  have HL : Hid (Lst EI w va xs) := hl
  have HN : Hid (xs.length = n) := hn
  have H0 : Hid (∀ x ∈ xs, 0 ≤ x ∧ x < 9223372036854775808) := h0
  clear hl hn h0
  go_enter Try.func81, Try.ntmps81
  go_wp2_with fail
  go_loopw [3, 8] (fun bv iv wr => ∃ i : Nat, i ≤ n ∧ iv = .int .i64 (i : Int) ∧ OwnL E8 w.heap.size wr bv (wordsB 4 (xs.take i)) ∧ Below w.heap.size w wr) (fun _ i _ => n - (intOf i).toNat)
  case atStart => exact ⟨0, by omega, rfl, OwnL.nil _ _ _, Below.refl _ _⟩
  case round =>
    obtain ⟨i, hi, rfl, ho, hb⟩ := hrel
    have HO : Hid (OwnL E8 w.heap.size wr u3 (wordsB 4 (xs.take i))) := ho
    have HB : Hid (Below w.heap.size w wr) := hb
    clear ho hb
    by_cases hlt : i < n
    · have hil : i < xs.length := by rw [HN.out]; exact hlt
      obtain ⟨b, o, rfl, hbb, c0⟩ := lstI (HL.out.bel HB.out) i hil
      have h0i := H0.out _ (List.getElem_mem hil)
      have HNX : Hid (wordsB 4 (xs.take (i + 1)) = wordsB 4 (xs.take i) ++ big 4 xs[i].toNat) := wordsB_snoc 4 xs i hil
      have hlen : (wordsB 4 (xs.take i)).length ≤ 400000 := by rw [wordsB_len, List.length_take]; omega
      obtain ⟨x, hxx⟩ : ∃ x, xs[i] = x := ⟨_, rfl⟩
      rw [hxx] at c0 h0i HNX
      obtain ⟨q, rfl⟩ : ∃ q : Nat, x = q := ⟨x.toNat, by omega⟩
      rw [Int.toNat_natCast] at HNX
      have hq : q < 9223372036854775808 := by omega
      have hii : (i : Int) < n := by omega
      have ii0 : (0 : Int) ≤ i := by omega
      clear hxx h0i
      go_wp2_with fail
      refine (rbytes_any q 4 (by decide) hq wr).mono ?_
      rintro e w1 ⟨v1, rfl, ho1, hb1⟩
      obtain ⟨a1, c1, hv1, -⟩ := ho1.form
      rw [big_len] at hv1
      subst hv1
      have HP1 : Hid (Pc8 w1 a1 4 c1 (big 4 q)) := OwnL.pc8 ho1
      have HB1 : Hid (Below w.heap.size w w1) := HB.out.trans (hb1.mono HB.out.size)
      have HO1 : Hid (OwnL E8 w.heap.size w1 u3 (wordsB 4 (xs.take i))) := HO.out.bel hb1
      have hby : (wordsB 4 (xs.take i)).length + 4 ≤ 1099511627775 := by omega
      clear ho1 hb1
      go_wp2_with (at_builtin; refine list_appL E8 rfl _ _ 22 rfl rfl w.heap.size u3 (wordsB 4 (xs.take i)) (big 4 q) a1 4 c1 w1 hby rfl HO1.out rfl HP1.out.l HP1.out.nil HP1.out.len HB1.out.size ?_)
      intro v2 w2 ho2 hg2 hat2
      have HO2 : Hid (OwnL E8 w.heap.size w2 v2 (wordsB 4 (xs.take (i + 1)))) := by rw [HNX.out]; exact ho2.out
      have HB2 : Hid (Below w.heap.size w w2) := HB1.out.grown hg2.out HB1.out.size (fun g e => (HO1.out.row.lt g e).1)
      clear ho2 hg2 hat2
      go_wp2_with fail
      exact ⟨⟨i + 1, by omega, by simp, HO2.out, HB2.out⟩, by simp [intOf]; omega⟩
    · obtain rfl : i = n := by omega
      have HE : Hid (OwnL E8 w.heap.size wr u3 (wordsB 4 xs)) := by
        have h1 := HO.out
        rw [List.take_of_length_le (by have := HN.out; omega)] at h1
        exact h1
      obtain ⟨va5, vc5, rfl, -⟩ := HE.out.form
      obtain ⟨vl, hvl⟩ : ∃ q, (wordsB 4 xs).length = q := ⟨_, rfl⟩
      rw [hvl] at HE
      rw [hvl]
      clear HO hvl
      go_wp2_with fail
      go_ret
      exact ⟨_, rfl, HE.out, HB.out⟩
theorem big1 {k : Nat} (h : k < 256) : big 1 k = [k] := by
  unfold big
  simp [List.range_succ]
  omega
set_option maxRecDepth 100000 in
set_option maxHeartbeats 8000000 in
theorem rattr_any (kind : Nat) (hk : kind < 256) (a : Option Addr) (n cap : Nat) (xs : List Nat) (hn : n ≤ 1000000) (w : World) (hp : Pc8 w a n cap xs) :
    Calls Try.prog 80 #[.int .i64 (kind : Int), .slice a n cap] w fun e w' => ∃ v, e = .returned v ∧ OwnL E8 w.heap.size w' v (attr kind xs) ∧ Below w.heap.size w w' := by
  have HP : Hid (Pc8 w a n cap xs) := hp
  have hku : IntKind.u8.wrap (kind : Int) = (kind : Int) := by rw [IntKind.wrap_u8]; omega
  clear hp
  go_enter Try.func80, Try.ntmps80
  go_upto_region 2 with fail
  obtain ⟨w0, hw0⟩ : ∃ w0, w.alloc (Obj.cells #[.int .u8 (kind : Int)] 5) = w0 := ⟨_, rfl⟩
  obtain ⟨m1, m2⟩ := own_made E8 (W := w) (W' := w0) [kind] 1 rfl (by decide) hw0
  have HO0 : Hid (OwnL E8 w.heap.size w0 (.slice (some ⟨w.heap.size, 0, none⟩) 1 1) [kind]) := m1
  have HB0 : Hid (Below w.heap.size w w0) := m2
  rw [hw0]
  clear hw0 m1 m2
  go_wp2_with fail
  refine (rbytes_any n 2 (by decide) (by omega) w0).mono ?_
  rintro e w1 ⟨v1, rfl, ho1, hb1⟩
  obtain ⟨a1, c1, hv1, -⟩ := ho1.form
  rw [big_len] at hv1
  subst hv1
  have HP1 : Hid (Pc8 w1 a1 2 c1 (big 2 n)) := OwnL.pc8 ho1
  have HB1 : Hid (Below w.heap.size w w1) := HB0.out.trans (hb1.mono HB0.out.size)
  have HO1 : Hid (OwnL E8 w.heap.size w1 (.slice (some ⟨w.heap.size, 0, none⟩) 1 1) [kind]) := HO0.out.bel hb1
  clear ho1 hb1 HO0 HB0
  go_wp2_with (at_builtin; refine list_appL E8 rfl _ _ 22 rfl rfl w.heap.size (.slice (some ⟨w.heap.size, 0, none⟩) 1 1) [kind] (big 2 n) a1 2 c1 w1 (by simp) rfl HO1.out rfl HP1.out.l HP1.out.nil HP1.out.len HB1.out.size ?_)
  intro v2 w2 ho2 hg2 hat2
  have HO2 : Hid (OwnL E8 w.heap.size w2 v2 ([kind] ++ big 2 n)) := ho2.out
  have HB2 : Hid (Below w.heap.size w w2) := HB1.out.grown hg2.out HB1.out.size (fun g e => (HO1.out.row.lt g e).1)
  have HP2 : Hid (Pc8 w2 a n cap xs) := HP.out.bel HB2.out
  have hby : ([kind] ++ big 2 n).length + n ≤ 1099511627775 := by rw [List.length_append, big_len]; simp; omega
  clear ho2 hg2 hat2 HO1 HB1 HP1
  go_wp2_with (at_builtin; refine list_appL E8 rfl _ _ 22 rfl rfl w.heap.size v2 ([kind] ++ big 2 n) xs a n cap w2 hby rfl HO2.out rfl HP2.out.l HP2.out.nil HP2.out.len HB2.out.size ?_)
  intro v3 w3 ho3 hg3 hat3
  have HO3 : Hid (OwnL E8 w.heap.size w3 v3 (attr kind xs)) := by
    unfold attr piece
    rw [big1 hk, HP.out.len]
    exact ho3.out
  have HB3 : Hid (Below w.heap.size w w3) := HB2.out.grown hg3.out HB2.out.size (fun g e => (HO2.out.row.lt g e).1)
  clear ho3 hg3 hat3 HO2 HB2 HP2
  obtain ⟨va5, vc5, rfl, -⟩ := HO3.out.form
  obtain ⟨vl, hvl⟩ : ∃ q, (attr kind xs).length = q := ⟨_, rfl⟩
  rw [hvl] at HO3
  rw [hvl]
  clear hvl
  go_wp2_with fail
  go_ret
  exact ⟨_, rfl, HO3.out, HB3.out⟩
end Go.Proofs.Ytghlgkpfcpcopaa.Pv
namespace Go.Proofs.Ytghlgkpfcpcopaa.Pv
open Go.ChangeShapes Go.WideShapes Go.ChangeAt Go.RowKit Go.Joins Go.Proofs.Ytghlgkpfcpcopaa.PM Go.Proofs.Ytghlgkpfcpcopaa.Ask Go.Proofs.Ytghlgkpfcpcopaa.Ge
set_option linter.unusedVariables false

def wN (lo x : Int) : Bool := wi x lo 4294967295
def openR (m : Ms) : Bool := !decide (m.kind = 1) || (wi m.dom 1 4294967295 && wi m.id 1 4294967295 && (decide (m.hold = 0) || wi m.hold 3 65535))
def rrange (m : Ms) : Bool := openR m && (wi m.code 0 255 && wi m.rt.org 0 2 && m.rt.path.all (fun x => wi x 1 4294967295) && m.rt.marks.all (fun x => wi x 0 4294967295) && m.rt.clus.all (fun x => wi x 0 4294967295)) && (wi m.rt.med 0 4294967295 && wi m.rt.pref 0 4294967295 && wi m.rt.auth 0 4294967295) && decide (m.rt.path.length ≤ 64 ∧ m.rt.marks.length ≤ 32 ∧ m.rt.clus.length ≤ 32)
set_option maxRecDepth 100000 in
set_option maxHeartbeats 8000000 in
theorem rrange_any2 (m : Ms) (s : Sl) (w : World) (hok : MOk w m s) (t : Bool) (ht : rrange m = t) :
    Calls Try.prog 50 #[msV m s] w fun e w' => e = .returned (.bool t) ∧ Below w.heap.size w w' := by
  have HOK : Hid (MOk w m s) := hok
  obtain ⟨b1, h1⟩ : ∃ b, openR m = b := ⟨_, rfl⟩
  have H1 : Hid (openR m = b1) := h1
  obtain ⟨b2, h2⟩ : ∃ b, wi m.code 0 255 = b := ⟨_, rfl⟩
  have H2 : Hid (wi m.code 0 255 = b2) := h2
  obtain ⟨b3, h3⟩ : ∃ b, wi m.rt.org 0 2 = b := ⟨_, rfl⟩
  have H3 : Hid (wi m.rt.org 0 2 = b3) := h3
  obtain ⟨b4, h4⟩ : ∃ b, m.rt.path.all (fun x => wi x 1 4294967295) = b := ⟨_, rfl⟩
  have H4 : Hid (m.rt.path.all (fun x => wi x 1 4294967295) = b4) := h4
  obtain ⟨b5, h5⟩ : ∃ b, m.rt.marks.all (fun x => wi x 0 4294967295) = b := ⟨_, rfl⟩
  have H5 : Hid (m.rt.marks.all (fun x => wi x 0 4294967295) = b5) := h5
  obtain ⟨b6, h6⟩ : ∃ b, m.rt.clus.all (fun x => wi x 0 4294967295) = b := ⟨_, rfl⟩
  have H6 : Hid (m.rt.clus.all (fun x => wi x 0 4294967295) = b6) := h6
  obtain ⟨b7, h7⟩ : ∃ b, (wi m.rt.med 0 4294967295 && wi m.rt.pref 0 4294967295 && wi m.rt.auth 0 4294967295) = b := ⟨_, rfl⟩
  have H7 : Hid ((wi m.rt.med 0 4294967295 && wi m.rt.pref 0 4294967295 && wi m.rt.auth 0 4294967295) = b7) := h7
  obtain ⟨n1, hn1⟩ : ∃ n, m.lost.length = n := ⟨_, rfl⟩
  have HN1 : Hid (m.lost.length = n1) := hn1
  obtain ⟨n2, hn2⟩ : ∃ n, m.hv.length = n := ⟨_, rfl⟩
  have HN2 : Hid (m.hv.length = n2) := hn2
  obtain ⟨q1, hq1⟩ : ∃ n, m.rt.path.length = n := ⟨_, rfl⟩
  have HQ1 : Hid (m.rt.path.length = q1) := hq1
  obtain ⟨q2, hq2⟩ : ∃ n, m.rt.marks.length = n := ⟨_, rfl⟩
  have HQ2 : Hid (m.rt.marks.length = q2) := hq2
  obtain ⟨q3, hq3⟩ : ∃ n, m.rt.clus.length = n := ⟨_, rfl⟩
  have HQ3 : Hid (m.rt.clus.length = q3) := hq3
  have HV : Hid (msV m s = .agg #[.int .i64 m.kind, .int .i64 m.dom, .int .i64 m.id, .int .i64 m.hold, .int .i64 m.code, .slice s.l n1 s.lc, .slice s.h n2 s.hc, .int .u32 m.rt.pa, .int .i64 m.rt.pn, .slice s.p q1 s.pc, .int .i64 m.rt.org, .int .i64 m.rt.pref, .int .i64 m.rt.med, .int .u32 m.rt.next, .slice s.m q2 s.mc, .slice s.c q3 s.cc, .int .i64 m.rt.auth]) := by unfold msV; rw [hn1, hn2, hq1, hq2, hq3]; rfl
  unfold rrange at ht
  rw [h1, h2, h3, h4, h5, h6, h7, hq1, hq2, hq3] at ht
  have HT : Hid ((b1 && (b2 && b3 && b4 && b5 && b6) && b7 && decide (q1 ≤ 64 ∧ q2 ≤ 32 ∧ q3 ≤ 32)) = t) := ht
  have HS1 := hok.r.p.small
  have HS2 := hok.r.m.small
  have HS3 := hok.r.c.small
  rw [hq1] at HS1
  rw [hq2] at HS2
  rw [hq3] at HS3
  rw [HV.out]
  have HS7 : Hid (∀ W W', W.alloc (Obj.cells #[.int .i64 m.rt.med, .int .i64 m.rt.pref, .int .i64 m.rt.auth] 3) = W' → Below W.heap.size W W' ∧ Calls Try.prog 79 #[.slice (some ⟨W.heap.size, 0, none⟩) 3 3, .int .i64 0] W' fun e w' => e = .returned (.bool b7) ∧ w' = W') := fun W W' h => by
    obtain ⟨m1, m2⟩ := own_made EI (W := W) (W' := W') [m.rt.med, m.rt.pref, m.rt.auth] 3 rfl (by decide) h
    exact ⟨m2, rbetweens_any 0 _ 3 [m.rt.med, m.rt.pref, m.rt.auth] 3 rfl W' m1.lst.1 b7 (by rw [← h7]; simp [List.all_cons, Bool.and_assoc])⟩
  clear hn1 hn2 hq1 hq2 hq3 ht h1 h2 h3 h4 h5 h6 h7 hok
  go_enter Try.func50, Try.ntmps50
  go_upto_region 2 with fail
  obtain ⟨wA, hwA⟩ : ∃ w0, w.alloc (Obj.cells #[.int .i64 m.kind, .int .i64 m.dom, .int .i64 m.id, .int .i64 m.hold, .int .i64 m.code, .slice s.l n1 s.lc, .slice s.h n2 s.hc, .int .u32 m.rt.pa, .int .i64 m.rt.pn, .slice s.p q1 s.pc, .int .i64 m.rt.org, .int .i64 m.rt.pref, .int .i64 m.rt.med, .int .u32 m.rt.next, .slice s.m q2 s.mc, .slice s.c q3 s.cc, .int .i64 m.rt.auth] 31) = w0 := ⟨_, rfl⟩
  obtain ⟨hbx, hbA, hsA⟩ := mbox_new (m := m) (s := s) (w := w) (W := wA) (by rw [HN1.out, HN2.out, HQ1.out, HQ2.out, HQ3.out]; exact hwA)
  rw [hwA]
  obtain ⟨w0, hw0⟩ : ∃ w0, wA.alloc (Obj.cells #[.int .u32 m.rt.pa, .int .i64 m.rt.pn, .slice s.p q1 s.pc, .int .i64 m.rt.org, .int .i64 m.rt.pref, .int .i64 m.rt.med, .int .u32 m.rt.next, .slice s.m q2 s.mc, .slice s.c q3 s.cc, .int .i64 m.rt.auth] 29) = w0 := ⟨_, rfl⟩
  obtain ⟨hrx, hb0, hs0⟩ := rbox_new (r := m.rt) (s := s) (w := wA) (W := w0) (by rw [HQ1.out, HQ2.out, HQ3.out]; exact hw0)
  rw [hw0]
  obtain ⟨b, hb⟩ : ∃ b, w.heap.size = b := ⟨_, rfl⟩
  rw [hsA] at hrx
  rw [hb] at hbx hrx ⊢
  have HBZ : Hid (w.heap.size = b) := hb
  have HX0 : Hid (MBox b m s w0) := hbx.blk (hb0.block b (by omega))
  have HR0 : Hid (RBox (b + 1) m.rt s w0) := hrx
  have HB0 : Hid (Below w.heap.size w w0) := hbA.trans (hb0.mono hbA.size)
  have HO0 : Hid (MOk w0 m s) := HOK.out.bel HB0.out
  have hb1 : b + 1 < w0.heap.size := by omega
  clear hwA hw0 hbx hb0 hrx hs0 hsA hbA hb HOK
  obtain ⟨c0, c1, c2, c3, c4, c5, c6, c7, c8, c9, c10, c11, c12, c13, c14, c15, c16⟩ := HX0.out
  rw [HN1.out] at c5
  rw [HN2.out] at c6
  rw [HQ1.out] at c9
  rw [HQ2.out] at c14
  rw [HQ3.out] at c15
  obtain ⟨r0, r1, r2, r3, r4, r5, r6, r7, r8, r9⟩ := HR0.out
  rw [HQ1.out] at r2
  rw [HQ2.out] at r7
  rw [HQ3.out] at r8
  by_cases k1 : m.kind = 1
  · have HOP : Hid ((wi m.dom 1 4294967295 && wi m.id 1 4294967295 && (decide (m.hold = 0) || wi m.hold 3 65535)) = b1) := by
      show _ = _
      rw [← H1.out]
      unfold openR
      rw [decide_eq_true k1]
      simp
    rw [k1] at c0
    obtain ⟨d1, g1⟩ : ∃ b, wi m.dom 1 4294967295 = b := ⟨_, rfl⟩
    obtain ⟨d2, g2⟩ : ∃ b, wi m.id 1 4294967295 = b := ⟨_, rfl⟩
    obtain ⟨d3, g3⟩ : ∃ b, wi m.hold 3 65535 = b := ⟨_, rfl⟩
    have G1 : Hid (wi m.dom 1 4294967295 = d1) := g1
    have G2 : Hid (wi m.id 1 4294967295 = d2) := g2
    have G3 : Hid (wi m.hold 3 65535 = d3) := g3
    rw [g1, g2, g3] at HOP
    clear g1 g2 g3
    go_wp2_with fail
    refine (rbetween_any m.dom 1 4294967295 d1 G1.out _).mono ?_
    rintro e w5 ⟨rfl, hw5⟩
    rw [hw5]
    clear hw5 w5
    cases d1 with
    | false =>
      obtain rfl : b1 = false := by rw [← HOP.out]; simp
      go_wp2_with fail
      go_ret
      exact ⟨ret_bool (by rw [← HT.out]; simp), HB0.out⟩
    | true =>
      go_wp2_with fail
      refine (rbetween_any m.id 1 4294967295 d2 G2.out _).mono ?_
      rintro e w5 ⟨rfl, hw5⟩
      rw [hw5]
      clear hw5 w5
      cases d2 with
      | false =>
        obtain rfl : b1 = false := by rw [← HOP.out]; simp
        go_wp2_with fail
        go_ret
        exact ⟨ret_bool (by rw [← HT.out]; simp), HB0.out⟩
      | true =>
        by_cases h0 : m.hold = 0
        · obtain rfl : b1 = true := by rw [← HOP.out, decide_eq_true h0]; simp
          have h0b : (m.hold != 0) = false := by simpa using h0
          rw [h0] at c3
          clear h0 h0b
          go_wp2_with fail
          refine (rbetween_any m.code 0 255 b2 H2.out _).mono ?_
          rintro e w5 ⟨rfl, hw5⟩
          rw [hw5]
          clear hw5 w5
          cases b2 with
          | false =>
            go_wp2_with fail
            go_ret
            exact ⟨ret_bool (by rw [← HT.out]; simp), HB0.out⟩
          | true =>
            go_wp2_with fail
            refine (rbetween_any m.rt.org 0 2 b3 H3.out _).mono ?_
            rintro e w5 ⟨rfl, hw5⟩
            rw [hw5]
            clear hw5 w5
            cases b3 with
            | false =>
              go_wp2_with fail
              go_ret
              exact ⟨ret_bool (by rw [← HT.out]; simp), HB0.out⟩
            | true =>
              go_wp2_with fail
              refine (rbetweens_any 1 s.p s.pc m.rt.path q1 HQ1.out _ HO0.out.r.p b4 H4.out).mono ?_
              rintro e w5 ⟨rfl, hw5⟩
              rw [hw5]
              clear hw5 w5
              cases b4 with
              | false =>
                go_wp2_with fail
                go_ret
                exact ⟨ret_bool (by rw [← HT.out]; simp), HB0.out⟩
              | true =>
                go_wp2_with fail
                refine (rbetweens_any 0 s.m s.mc m.rt.marks q2 HQ2.out _ HO0.out.r.m b5 H5.out).mono ?_
                rintro e w5 ⟨rfl, hw5⟩
                rw [hw5]
                clear hw5 w5
                cases b5 with
                | false =>
                  go_wp2_with fail
                  go_ret
                  exact ⟨ret_bool (by rw [← HT.out]; simp), HB0.out⟩
                | true =>
                  go_wp2_with fail
                  refine (rbetweens_any 0 s.c s.cc m.rt.clus q3 HQ3.out _ HO0.out.r.c b6 H6.out).mono ?_
                  rintro e w5 ⟨rfl, hw5⟩
                  rw [hw5]
                  clear hw5 w5
                  cases b6 with
                  | false =>
                    go_wp2_with fail
                    go_ret
                    exact ⟨ret_bool (by rw [← HT.out]; simp), HB0.out⟩
                  | true =>
                    go_wp2_with fail
                    obtain ⟨w9, hw9⟩ : ∃ w9, w0.alloc (Obj.cells #[.int .i64 m.rt.med, .int .i64 m.rt.pref, .int .i64 m.rt.auth] 3) = w9 := ⟨_, rfl⟩
                    obtain ⟨hb9, hc9⟩ := HS7.out w0 w9 hw9
                    have HB9 : Hid (Below w.heap.size w w9) := HB0.out.trans (hb9.mono HB0.out.size)
                    have HR9 : Hid (RBox (b + 1) m.rt s w9) := HR0.out.blk (hb9.block (b + 1) hb1)
                    rw [hw9]
                    refine hc9.mono ?_
                    rintro e w5 ⟨rfl, hw5⟩
                    rw [hw5]
                    clear hw5 w5
                    clear hw9 hb9 hc9 r0 r1 r2 r3 r4 r5 r6 r7 r8 r9 c0 c1 c2 c3 c4 c5 c6 c7 c8 c9 c10 c11 c12 c13 c14 c15 c16
                    obtain ⟨r0, r1, r2, r3, r4, r5, r6, r7, r8, r9⟩ := HR9.out
                    rw [HQ1.out] at r2
                    rw [HQ2.out] at r7
                    rw [HQ3.out] at r8
                    cases b7 with
                    | false =>
                      go_wp2_with fail
                      go_ret
                      exact ⟨ret_bool (by rw [← HT.out]; simp), HB9.out⟩
                    | true =>
                      go_wp2_with fail
                      all_goals
                        go_ret
                        refine ⟨ret_bool ?_, HB9.out⟩
                        rw [← HT.out]
                        simp only [Bool.and_true, Bool.true_and]
                        first
                          | (symm; rw [decide_eq_false_iff_not]; omega)
                          | (symm; rw [decide_eq_true_iff]; omega)
                          | (rw [Bool.eq_iff_iff, decide_eq_true_iff, decide_eq_true_iff]; omega)
        · have HH : Hid ((decide (m.hold = 0)) = false) := decide_eq_false h0
          have h0b : (m.hold != 0) = true := by simpa using h0
          clear h0
          go_wp2_with fail
          refine (rbetween_any m.hold 3 65535 d3 G3.out _).mono ?_
          rintro e w5 ⟨rfl, hw5⟩
          rw [hw5]
          clear hw5 w5
          cases d3 with
          | false =>
            obtain rfl : b1 = false := by rw [← HOP.out, HH.out]; simp
            go_wp2_with fail
            go_ret
            exact ⟨ret_bool (by rw [← HT.out]; simp), HB0.out⟩
          | true =>
            obtain rfl : b1 = true := by rw [← HOP.out, HH.out]; simp
            go_wp2_with fail
            refine (rbetween_any m.code 0 255 b2 H2.out _).mono ?_
            rintro e w5 ⟨rfl, hw5⟩
            rw [hw5]
            clear hw5 w5
            cases b2 with
            | false =>
              go_wp2_with fail
              go_ret
              exact ⟨ret_bool (by rw [← HT.out]; simp), HB0.out⟩
            | true =>
              go_wp2_with fail
              refine (rbetween_any m.rt.org 0 2 b3 H3.out _).mono ?_
              rintro e w5 ⟨rfl, hw5⟩
              rw [hw5]
              clear hw5 w5
              cases b3 with
              | false =>
                go_wp2_with fail
                go_ret
                exact ⟨ret_bool (by rw [← HT.out]; simp), HB0.out⟩
              | true =>
                go_wp2_with fail
                refine (rbetweens_any 1 s.p s.pc m.rt.path q1 HQ1.out _ HO0.out.r.p b4 H4.out).mono ?_
                rintro e w5 ⟨rfl, hw5⟩
                rw [hw5]
                clear hw5 w5
                cases b4 with
                | false =>
                  go_wp2_with fail
                  go_ret
                  exact ⟨ret_bool (by rw [← HT.out]; simp), HB0.out⟩
                | true =>
                  go_wp2_with fail
                  refine (rbetweens_any 0 s.m s.mc m.rt.marks q2 HQ2.out _ HO0.out.r.m b5 H5.out).mono ?_
                  rintro e w5 ⟨rfl, hw5⟩
                  rw [hw5]
                  clear hw5 w5
                  cases b5 with
                  | false =>
                    go_wp2_with fail
                    go_ret
                    exact ⟨ret_bool (by rw [← HT.out]; simp), HB0.out⟩
                  | true =>
                    go_wp2_with fail
                    refine (rbetweens_any 0 s.c s.cc m.rt.clus q3 HQ3.out _ HO0.out.r.c b6 H6.out).mono ?_
                    rintro e w5 ⟨rfl, hw5⟩
                    rw [hw5]
                    clear hw5 w5
                    cases b6 with
                    | false =>
                      go_wp2_with fail
                      go_ret
                      exact ⟨ret_bool (by rw [← HT.out]; simp), HB0.out⟩
                    | true =>
                      go_wp2_with fail
                      obtain ⟨w9, hw9⟩ : ∃ w9, w0.alloc (Obj.cells #[.int .i64 m.rt.med, .int .i64 m.rt.pref, .int .i64 m.rt.auth] 3) = w9 := ⟨_, rfl⟩
                      obtain ⟨hb9, hc9⟩ := HS7.out w0 w9 hw9
                      have HB9 : Hid (Below w.heap.size w w9) := HB0.out.trans (hb9.mono HB0.out.size)
                      have HR9 : Hid (RBox (b + 1) m.rt s w9) := HR0.out.blk (hb9.block (b + 1) hb1)
                      rw [hw9]
                      refine hc9.mono ?_
                      rintro e w5 ⟨rfl, hw5⟩
                      rw [hw5]
                      clear hw5 w5
                      clear hw9 hb9 hc9 r0 r1 r2 r3 r4 r5 r6 r7 r8 r9 c0 c1 c2 c3 c4 c5 c6 c7 c8 c9 c10 c11 c12 c13 c14 c15 c16
                      obtain ⟨r0, r1, r2, r3, r4, r5, r6, r7, r8, r9⟩ := HR9.out
                      rw [HQ1.out] at r2
                      rw [HQ2.out] at r7
                      rw [HQ3.out] at r8
                      cases b7 with
                      | false =>
                        go_wp2_with fail
                        go_ret
                        exact ⟨ret_bool (by rw [← HT.out]; simp), HB9.out⟩
                      | true =>
                        go_wp2_with fail
                        all_goals
                          go_ret
                          refine ⟨ret_bool ?_, HB9.out⟩
                          rw [← HT.out]
                          simp only [Bool.and_true, Bool.true_and]
                          first
                            | (symm; rw [decide_eq_false_iff_not]; omega)
                            | (symm; rw [decide_eq_true_iff]; omega)
                            | (rw [Bool.eq_iff_iff, decide_eq_true_iff, decide_eq_true_iff]; omega)
  · obtain rfl : b1 = true := by
      rw [← H1.out]
      unfold openR
      rw [decide_eq_false k1]
      simp
    have k1b : (m.kind == 1) = false := by simpa using k1
    clear k1
    go_wp2_with fail
    refine (rbetween_any m.code 0 255 b2 H2.out _).mono ?_
    rintro e w5 ⟨rfl, hw5⟩
    rw [hw5]
    clear hw5 w5
    cases b2 with
    | false =>
      go_wp2_with fail
      go_ret
      exact ⟨ret_bool (by rw [← HT.out]; simp), HB0.out⟩
    | true =>
      go_wp2_with fail
      refine (rbetween_any m.rt.org 0 2 b3 H3.out _).mono ?_
      rintro e w5 ⟨rfl, hw5⟩
      rw [hw5]
      clear hw5 w5
      cases b3 with
      | false =>
        go_wp2_with fail
        go_ret
        exact ⟨ret_bool (by rw [← HT.out]; simp), HB0.out⟩
      | true =>
        go_wp2_with fail
        refine (rbetweens_any 1 s.p s.pc m.rt.path q1 HQ1.out _ HO0.out.r.p b4 H4.out).mono ?_
        rintro e w5 ⟨rfl, hw5⟩
        rw [hw5]
        clear hw5 w5
        cases b4 with
        | false =>
          go_wp2_with fail
          go_ret
          exact ⟨ret_bool (by rw [← HT.out]; simp), HB0.out⟩
        | true =>
          go_wp2_with fail
          refine (rbetweens_any 0 s.m s.mc m.rt.marks q2 HQ2.out _ HO0.out.r.m b5 H5.out).mono ?_
          rintro e w5 ⟨rfl, hw5⟩
          rw [hw5]
          clear hw5 w5
          cases b5 with
          | false =>
            go_wp2_with fail
            go_ret
            exact ⟨ret_bool (by rw [← HT.out]; simp), HB0.out⟩
          | true =>
            go_wp2_with fail
            refine (rbetweens_any 0 s.c s.cc m.rt.clus q3 HQ3.out _ HO0.out.r.c b6 H6.out).mono ?_
            rintro e w5 ⟨rfl, hw5⟩
            rw [hw5]
            clear hw5 w5
            cases b6 with
            | false =>
              go_wp2_with fail
              go_ret
              exact ⟨ret_bool (by rw [← HT.out]; simp), HB0.out⟩
            | true =>
              go_wp2_with fail
              obtain ⟨w9, hw9⟩ : ∃ w9, w0.alloc (Obj.cells #[.int .i64 m.rt.med, .int .i64 m.rt.pref, .int .i64 m.rt.auth] 3) = w9 := ⟨_, rfl⟩
              obtain ⟨hb9, hc9⟩ := HS7.out w0 w9 hw9
              have HB9 : Hid (Below w.heap.size w w9) := HB0.out.trans (hb9.mono HB0.out.size)
              have HR9 : Hid (RBox (b + 1) m.rt s w9) := HR0.out.blk (hb9.block (b + 1) hb1)
              rw [hw9]
              refine hc9.mono ?_
              rintro e w5 ⟨rfl, hw5⟩
              rw [hw5]
              clear hw5 w5
              clear hw9 hb9 hc9 r0 r1 r2 r3 r4 r5 r6 r7 r8 r9 c0 c1 c2 c3 c4 c5 c6 c7 c8 c9 c10 c11 c12 c13 c14 c15 c16
              obtain ⟨r0, r1, r2, r3, r4, r5, r6, r7, r8, r9⟩ := HR9.out
              rw [HQ1.out] at r2
              rw [HQ2.out] at r7
              rw [HQ3.out] at r8
              cases b7 with
              | false =>
                go_wp2_with fail
                go_ret
                exact ⟨ret_bool (by rw [← HT.out]; simp), HB9.out⟩
              | true =>
                go_wp2_with fail
                all_goals
                  go_ret
                  refine ⟨ret_bool ?_, HB9.out⟩
                  rw [← HT.out]
                  simp only [Bool.and_true, Bool.true_and]
                  first
                    | (symm; rw [decide_eq_false_iff_not]; omega)
                    | (symm; rw [decide_eq_true_iff]; omega)
                    | (rw [Bool.eq_iff_iff, decide_eq_true_iff, decide_eq_true_iff]; omega)
end Go.Proofs.Ytghlgkpfcpcopaa.Pv
namespace Go.Proofs.Ytghlgkpfcpcopaa.Pv
open Go.ChangeShapes Go.WideShapes Go.ChangeAt Go.RowKit Go.Joins Go.Proofs.Ytghlgkpfcpcopaa.PM Go.Proofs.Ytghlgkpfcpcopaa.Ask Go.Proofs.Ytghlgkpfcpcopaa.Ge
set_option linter.unusedVariables false

theorem big1' {k : Nat} (h : k < 256) : big 1 k = [k] := by
  unfold big
  simp [List.range_succ]
  omega
theorem pfx_at (A z i : Nat) (hz : z ≤ 4) (hi : i < z) : (big z (A / 2 ^ (32 - 8 * z)))[i]'(by rw [big_len]; exact hi) = A / 2 ^ (24 - 8 * i) % 256 := by
  simp only [big, List.getElem_map, List.getElem_range]
  rw [Nat.div_div_eq_div_mul, ← Nat.pow_add]
  congr 3
  omega
set_option maxRecDepth 100000 in
set_option maxHeartbeats 8000000 in
theorem docprefixes_any (va : Option Addr) (cap : Nat) (ps : List (Int × Int)) (n : Nat) (hn : ps.length = n) (hbig : n ≤ 100000) (w : World) (hl : Lst E2 w va ps) (hp : ∀ p ∈ ps, InA p) (hv : ∀ p ∈ ps, 0 ≤ p.2 ∧ p.2 ≤ 32) :
    Calls Try.prog 51 #[.slice va n cap] w fun e w' => ∃ v, e = .returned v ∧ OwnL E8 w.heap.size w' v (pfxsB ps) ∧ Below w.heap.size w w' := by
  have HL : Hid (Lst E2 w va ps) := hl
  have HP : Hid (∀ p ∈ ps, InA p) := hp
  have HV : Hid (∀ p ∈ ps, 0 ≤ p.2 ∧ p.2 ≤ 32) := hv
  have HN : Hid (ps.length = n) := hn
  clear hl hp hn hv
  go_enter Try.func51, Try.ntmps51
  go_wp2_with fail
  go_loopw [3, 9] (fun bv iv wr => ∃ i : Nat, i ≤ n ∧ iv = .int .i64 (i : Int) ∧ OwnL E8 w.heap.size wr bv (pfxsB (ps.take i)) ∧ Below w.heap.size w wr) (fun _ i _ => n - (intOf i).toNat)
  case atStart => exact ⟨0, by omega, rfl, OwnL.nil _ _ _, Below.refl _ _⟩
  case round =>
    obtain ⟨i, hi, rfl, ho, hb⟩ := hrel
    have HO : Hid (OwnL E8 w.heap.size wr u3 (pfxsB (ps.take i))) := ho
    have HB : Hid (Below w.heap.size w wr) := hb
    clear ho hb
    by_cases hlt : i < n
    · have hil : i < ps.length := by rw [HN.out]; exact hlt
      obtain ⟨b, o, rfl, hbl, c0, c1⟩ := lst2 (HL.out.bel HB.out) i hil
      have hin := HP.out _ (List.getElem_mem hil)
      have hvl := HV.out _ (List.getElem_mem hil)
      have HNX : Hid (pfxsB (ps.take (i + 1)) = pfxsB (ps.take i) ++ pfxB ps[i]) := pfxsB_snoc ps i hil
      have hlen : (pfxsB (ps.take i)).length ≤ 500000 := by
        have h1 := (pfxsB_len (ps := ps.take i) (fun p hp => by have := HV.out p (List.mem_of_mem_take hp); omega)).1
        rw [List.length_take] at h1
        omega
      obtain ⟨⟨pa, pn⟩, hpp⟩ : ∃ p, ps[i] = p := ⟨_, rfl⟩
      rw [hpp] at c0 c1 hin hvl HNX
      obtain ⟨p0, p1⟩ := hin
      obtain ⟨q0, q1⟩ := hvl
      dsimp only at p0 p1 q0 q1 c0 c1
      obtain ⟨A, rfl⟩ : ∃ A : Nat, pa = A := ⟨pa.toNat, by omega⟩
      obtain ⟨L, rfl⟩ : ∃ L : Nat, pn = L := ⟨pn.toNat, by omega⟩
      have hL : L ≤ 32 := by omega
      obtain ⟨z, hz⟩ : ∃ z, bsz L = z := ⟨_, rfl⟩
      have hz4 : z ≤ 4 := by rw [← hz]; exact bsz_le hL
      have HZ : Hid (∀ k : Nat, k < z ↔ 8 * k < L) := fun k => by rw [← hz]; unfold bsz; omega
      obtain ⟨Y, hY⟩ : ∃ q, big z (A / 2 ^ (32 - 8 * z)) = q := ⟨_, rfl⟩
      have HYL : Hid (Y.length = z) := by rw [← hY]; exact big_len _ _
      have HYA : Hid (∀ k (h : k < Y.length), k < z → Y[k] = A / 2 ^ (24 - 8 * k) % 256) := fun k h hk => by subst hY; exact pfx_at A z k hz4 hk
      have HQ : Hid (pfxB ((A : Int), (L : Int)) = [L] ++ Y) := by
        unfold pfxB
        show big 1 ((L : Int).toNat) ++ big (bsz (L : Int).toNat) ((A : Int).toNat / 2 ^ (32 - 8 * bsz (L : Int).toNat)) = _
        rw [Int.toNat_natCast, Int.toNat_natCast, hz, hY, big1' (by omega)]
      have hLu : IntKind.u8.wrap (L : Int) = (L : Int) := by rw [IntKind.wrap_u8]; omega
      have hii : (i : Int) < n := by omega
      have ii0 : (0 : Int) ≤ i := by omega
      obtain ⟨bs, hbs⟩ : ∃ b, pfxsB (ps.take i) = b := ⟨_, rfl⟩
      rw [hbs] at HO HNX hlen
      clear hz hY hpp hbs
      go_upto_region 5 with fail
      obtain ⟨wA, hwA⟩ : ∃ wA, wr.alloc (Obj.cells #[.int .u32 (A : Int), .int .i64 (L : Int)] 26) = wA := ⟨_, rfl⟩
      obtain ⟨sa, hsa⟩ : ∃ k, wr.heap.size = k := ⟨_, rfl⟩
      have hbA : Below wr.heap.size wr wA := by rw [← hwA]; exact (Below.refl _ wr).alloc (Nat.le_refl _) _
      have d0 : wA.cell? ⟨sa, 0, none⟩ = some (.int .u32 (A : Int)) := by rw [← hwA, ← hsa]; simp
      have d1 : wA.cell? ⟨sa, 1, none⟩ = some (.int .i64 (L : Int)) := by rw [← hwA, ← hsa]; simp
      have hsA : sa < wA.heap.size := by rw [← hwA, ← hsa]; simp
      have HOA : Hid (OwnL E8 w.heap.size wA u3 bs) := HO.out.bel hbA
      have HBA : Hid (Below w.heap.size w wA) := HB.out.trans (hbA.mono HB.out.size)
      have HNE : Hid (¬ u3.ownBlock = some sa) := fun e => by have := (HO.out.row.lt sa e).2; omega
      have HDC : Hid (∀ W : World, W.heap[sa]? = wA.heap[sa]? → W.cell? ⟨sa, 0, none⟩ = some (.int .u32 (A : Int)) ∧ W.cell? ⟨sa, 1, none⟩ = some (.int .i64 (L : Int))) := fun W h => ⟨(World.cell?_of_block (w := wA) h).trans d0, (World.cell?_of_block (w := wA) h).trans d1⟩
      rw [hwA, hsa]
      obtain ⟨wB, hwB⟩ : ∃ W, wA.alloc (Obj.cells #[.int .u8 (L : Int)] 5) = W := ⟨_, rfl⟩
      have HWE : Hid (wA.alloc (Obj.cells (E8.enc L).toArray E8.e) = wB) := hwB
      have hbB : Below wA.heap.size wA wB := by rw [← hwB]; exact (Below.refl _ wA).alloc (Nat.le_refl _) _
      have HOB : Hid (OwnL E8 w.heap.size wB u3 bs) := HOA.out.bel hbB
      have HBB : Hid (Below w.heap.size w wB) := HBA.out.trans (hbB.mono HBA.out.size)
      have HSB : Hid (wB.heap[sa]? = wA.heap[sa]?) := hbB.block sa hsA
      have hsB : sa < wB.heap.size := Nat.lt_of_lt_of_le hsA hbB.size
      have hby : bs.length ≤ 1099511627775 := by omega
      clear hwA hsa hbA HO c0 c1 hbB
      go_wp2_with (at_builtin; refine list_app1 E8 rfl _ _ 22 rfl rfl w.heap.size u3 bs L hby (w := wA) wB rfl HOB.out rfl HBB.out.size HWE.out.symm ?_)
      intro v1 w1 ho1 hg1 hat1
      have HO1 : Hid (OwnL E8 w.heap.size w1 v1 (bs ++ [L])) := ho1.out
      have HB1 : Hid (Below w.heap.size w w1) := HBB.out.grown hg1.out HBB.out.size (fun g e => (HOB.out.row.lt g e).1)
      have HS1 : Hid (w1.heap[sa]? = wA.heap[sa]?) := (hg1.out.block sa hsB (fun e => HNE.out e.symm)).trans HSB.out
      have HN1 : Hid (¬ v1.ownBlock = some sa) := fun e => by
        rcases hat1.out with e2 | e2
        · exact HNE.out (by rw [← e2]; exact e)
        · rw [e2] at e; cases e; omega
      have hs1 : sa < w1.heap.size := Nat.lt_of_lt_of_le hsB hg1.out.size
      clear ho1 hg1 hat1 d0 d1 hwB HWE HOB HBB HOA HBA HSB hsB
      go_wp2_with fail
      go_loopw [3, 6] (fun bv iv wr2 => ∃ k : Nat, k ≤ z ∧ iv = .int .i64 (k : Int) ∧ OwnL E8 w.heap.size wr2 bv (bs ++ [L] ++ Y.take k) ∧ Below w.heap.size w wr2 ∧ wr2.heap[sa]? = wA.heap[sa]? ∧ (¬ bv.ownBlock = some sa) ∧ sa < wr2.heap.size) (fun _ i _ => z - (intOf i).toNat)
      case atStart => exact ⟨0, by omega, rfl, by simpa using HO1.out, HB1.out, HS1.out, HN1.out, hs1⟩
      case round =>
        obtain ⟨k, hk, rfl, hox, hbx, hsx, hnx, hlx⟩ := hrel
        have HO2 : Hid (OwnL E8 w.heap.size wr u3 (bs ++ [L] ++ Y.take k)) := hox
        have HB2 : Hid (Below w.heap.size w wr) := hbx
        have HS2 : Hid (wr.heap[sa]? = wA.heap[sa]?) := hsx
        have HN2 : Hid (¬ u3.ownBlock = some sa) := hnx
        clear hox hbx hsx hnx
        obtain ⟨d0, d1⟩ := HDC.out wr HS2.out
        obtain ⟨e8, he8⟩ : ∃ e, 8 * k = e := ⟨_, rfl⟩
        have w8 : IntKind.i64.wrap (8 * (k : Int)) = (e8 : Int) := by rw [IntWalk.i64_in _ (by omega)]; omega
        by_cases hkz : k < z
        · have hk8 : (e8 : Int) < (L : Int) := by have := (HZ.out k).1 hkz; omega
          obtain ⟨f8, hf8⟩ : ∃ f, 24 - 8 * k = f := ⟨_, rfl⟩
          have hky : k < Y.length := by rw [HYL.out]; exact hkz
          obtain ⟨c, hc⟩ : ∃ c, A / 2 ^ f8 % 256 = c := ⟨_, rfl⟩
          have hcv : (A : Int) / 2 ^ f8 % 256 = (c : Int) := by rw [← hc]; simp
          have hmin : min f8 32 = f8 := by omega
          have w9 : IntKind.i64.wrap (24 - (e8 : Int)) = (f8 : Int) := by rw [IntWalk.i64_in _ (by omega)]; omega
          obtain ⟨X, hX⟩ : ∃ x, bs ++ [L] ++ Y.take k = x := ⟨_, rfl⟩
          have HNX2 : Hid (X ++ [c] = bs ++ [L] ++ Y.take (k + 1)) := by
            show _ = _
            rw [← hX, List.take_succ_eq_append_getElem hky, HYA.out k hky hkz, hf8, hc, List.append_assoc (bs ++ [L])]
          rw [hX] at HO2
          have hxl : X.length ≤ 1099511627775 := by
            rw [← hX, List.length_append, List.length_append, List.length_take]
            simp
            omega
          obtain ⟨W, hW⟩ : ∃ W, wr.alloc (Obj.cells #[.int .u8 (c : Int)] 5) = W := ⟨_, rfl⟩
          have HWE : Hid (wr.alloc (Obj.cells (E8.enc c).toArray E8.e) = W) := hW
          have hbl2 : Below wr.heap.size wr W := by rw [← hW]; exact (Below.refl _ wr).alloc (Nat.le_refl _) _
          have HWA : Hid (OwnL E8 w.heap.size W u3 X) := HO2.out.bel hbl2
          have HBW : Hid (Below w.heap.size w W) := HB2.out.trans (hbl2.mono HB2.out.size)
          have HSW : Hid (W.heap[sa]? = wA.heap[sa]?) := (hbl2.block sa hlx).trans HS2.out
          have hsW : sa < W.heap.size := Nat.lt_of_lt_of_le hlx hbl2.size
          clear hX hc hbl2 hf8 he8
          go_wp2_with (at_builtin; refine list_app1 E8 rfl _ _ 22 rfl rfl w.heap.size u3 X c hxl (w := wr) W rfl HWA.out rfl HBW.out.size HWE.out.symm ?_)
          intro v2 w2 ho2 hg2 hat2
          have HO3 : Hid (OwnL E8 w.heap.size w2 v2 (bs ++ [L] ++ Y.take (k + 1))) := by rw [← HNX2.out]; exact ho2.out
          have HB3 : Hid (Below w.heap.size w w2) := HBW.out.grown hg2.out HBW.out.size (fun g e => (HWA.out.row.lt g e).1)
          have HS3 : Hid (w2.heap[sa]? = wA.heap[sa]?) := (hg2.out.block sa hsW (fun e => HN2.out e.symm)).trans HSW.out
          have HN3 : Hid (¬ v2.ownBlock = some sa) := fun e => by
            rcases hat2.out with e2 | e2
            · exact HN2.out (by rw [← e2]; exact e)
            · rw [e2] at e; cases e; omega
          have hs3 : sa < w2.heap.size := Nat.lt_of_lt_of_le hsW hg2.out.size
          clear ho2 hg2 hat2
          go_wp2_with fail
          exact ⟨⟨k + 1, by omega, by simp, HO3.out, HB3.out, HS3.out, HN3.out, hs3⟩, by simp [intOf]; omega⟩
        · obtain rfl : k = z := by omega
          have hk8 : ¬ (e8 : Int) < (L : Int) := by have := (HZ.out k).2; omega
          clear he8
          have HO3 : Hid (OwnL E8 w.heap.size wr u3 (pfxsB (ps.take (i + 1)))) := by
            rw [HNX.out, HQ.out, ← List.append_assoc]
            have := HO2.out
            rw [List.take_of_length_le (by rw [HYL.out]; exact Nat.le_refl _)] at this
            exact this
          clear HO2
          go_wp2_with fail
          exact ⟨⟨i + 1, by omega, by simp, HO3.out, HB2.out⟩, by simp [intOf]; omega⟩
    · obtain rfl : i = n := by omega
      have HE : Hid (OwnL E8 w.heap.size wr u3 (pfxsB ps)) := by
        have h1 := HO.out
        rw [List.take_of_length_le (by have := HN.out; omega)] at h1
        exact h1
      obtain ⟨va5, vc5, rfl, -⟩ := HE.out.form
      obtain ⟨vl, hvl⟩ : ∃ q, (pfxsB ps).length = q := ⟨_, rfl⟩
      rw [hvl] at HE
      rw [hvl]
      clear HO hvl
      go_wp2_with fail
      go_ret
      exact ⟨_, rfl, HE.out, HB.out⟩
theorem bits_xor64 (a b : Nat) (ha : a < 65536) (hb : b < 65536) : bits .xor .i64 (a : Int) (b : Int) = ((a ^^^ b : Nat) : Int) := by
  have ha' : a % 2 ^ IntKind.i64.bits = a := Nat.mod_eq_of_lt (Nat.lt_of_lt_of_le ha (by decide))
  have hb' : b % 2 ^ IntKind.i64.bits = b := Nat.mod_eq_of_lt (Nat.lt_of_lt_of_le hb (by decide))
  have h := xor_lt16 ha hb
  simp only [bits, BitVec.ofInt_natCast, BitVec.toNat_xor, BitVec.toNat_ofNat, ha', hb']
  rw [IntWalk.i64_in _ (by omega)]
theorem sbit_ref (s : Nat) (hs : s < 65536) : sbit s = if s / 32768 = 1 then (s * 2 % 65536) ^^^ 4129 else s * 2 % 65536 := by
  have h2 : s / 32768 < 2 := by omega
  unfold sbit
  split
  · rename_i h; rw [h]
  · rename_i h
    have : s / 32768 = 0 := by omega
    rw [this]
    simp
set_option maxRecDepth 100000 in
set_option maxHeartbeats 8000000 in
theorem rsum_any (va : Option Addr) (cap : Nat) (bs : List Nat) (L : Nat) (hL : bs.length = L) (w : World) (hx : Lst E8 w va bs) (hu : ∀ d ∈ bs, d < 256) (r : Nat) (hr : ssum 65535 bs = r) :
    Calls Try.prog 26 #[.slice va L cap] w fun e w' => e = .returned (.int .i64 (r : Int)) ∧ w' = w := by
  have HX : Hid (Lst E8 w va bs) := hx
  have HU : Hid (∀ d ∈ bs, d < 256) := hu
  have HLX : Hid (bs.length = L) := hL
  have HR : Hid (ssum 65535 bs = r) := hr
  have hl9 := hx.small
  rw [hL] at hl9
  clear hx hL hr hu
  go_enter Try.func26, Try.ntmps26
  go_wp2_with fail
  go_loopw [3, 10] (fun sv iv wr => ∃ (k s : Nat), k ≤ L ∧ iv = .int .i64 k ∧ sv = .int .i64 (s : Int) ∧ s < 65536 ∧ ssum s (bs.drop k) = r ∧ wr = w) (fun _ i _ => L - (intOf i).toNat)
  case atStart => exact ⟨0, 65535, by omega, rfl, rfl, by decide, HR.out, rfl⟩
  case round =>
    obtain ⟨k, s, hk, rfl, rfl, s1, hg, hwr⟩ := hrel
    subst hwr
    have HG : Hid (ssum s (bs.drop k) = r) := hg
    clear hg
    by_cases hlt : k < L
    · have hkd : k < bs.length := by rw [HLX.out]; exact hlt
      obtain ⟨b, o, rfl, hbl, c0⟩ := lst8 HX.out k hkd
      have hu := HU.out _ (List.getElem_mem hkd)
      obtain ⟨d, hd⟩ : ∃ c, bs[k] = c := ⟨_, rfl⟩
      rw [hd] at c0 hu
      obtain ⟨x, hx⟩ : ∃ x, s ^^^ (d * 256) = x := ⟨_, rfl⟩
      have hx1 : x < 65536 := by rw [← hx]; exact xor_lt16 s1 (by omega)
      have HG2 : Hid (ssum (sbits 8 x) (bs.drop (k + 1)) = r) := by
        have h1 := HG.out
        rw [List.drop_eq_getElem_cons hkd, hd] at h1
        rw [← hx]
        exact h1
      have e1 : (d : Int) * 256 = ((d * 256 : Nat) : Int) := by omega
      have hxx : bits .xor .i64 (s : Int) ((d : Int) * 256) = (x : Int) := by rw [e1, bits_xor64 _ _ s1 (by omega), hx]
      have hkk : (k : Int) < L := by omega
      have kk0 : (0 : Int) ≤ k := by omega
      clear hd HG hx e1
      go_wp2_with fail
      go_loopw [3, 6] (fun sv iv wr2 => ∃ (i t : Nat), i ≤ 8 ∧ iv = .int .i64 i ∧ sv = .int .i64 (t : Int) ∧ t < 65536 ∧ sbits (8 - i) t = sbits 8 x ∧ wr2 = wr) (fun _ i _ => 8 - (intOf i).toNat)
      case atStart => exact ⟨0, x, by omega, rfl, by first | rfl | rw [hxx], hx1, rfl, rfl⟩
      case round =>
        obtain ⟨i, t, hi, rfl, rfl, t1, hcb, hwr2⟩ := hrel
        subst hwr2
        have HCB : Hid (sbits (8 - i) t = sbits 8 x) := hcb
        clear hcb
        by_cases hlt8 : i < 8
        · have hi8 : (i : Int) < 8 := by omega
          have HNX : Hid (sbits (8 - (i + 1)) (sbit t) = sbits 8 x) := by
            have h1 := HCB.out
            rw [show 8 - i = (8 - (i + 1)) + 1 by omega] at h1
            exact h1
          obtain ⟨q, hq⟩ : ∃ q, t / 32768 = q := ⟨_, rfl⟩
          obtain ⟨rm, hrm⟩ : ∃ q, t * 2 % 65536 = q := ⟨_, rfl⟩
          have hrm1 : rm < 65536 := by rw [← hrm]; exact Nat.mod_lt _ (by decide)
          have hq2 : q < 2 := by omega
          have ht2 : (t : Int).tdiv 32768 = (q : Int) := by rw [Int.tdiv_eq_ediv_of_nonneg (by omega)]; omega
          have ht3 : ((t : Int) * 2).tmod 65536 = (rm : Int) := by rw [Int.tmod_eq_emod_of_nonneg (by omega)]; omega
          have HSR : Hid (sbit t = if q = 1 then rm ^^^ 4129 else rm) := by show _ = _; rw [sbit_ref t t1, hq, hrm]
          clear hq hrm
          by_cases hh : q = 1
          · subst hh
            have HSB : Hid (((sbit t : Nat) : Int) = bits .xor .i64 (rm : Int) 4129) := by
              have e3 : (4129 : Int) = ((4129 : Nat) : Int) := rfl
              show _ = _
              rw [HSR.out, if_pos rfl, e3, bits_xor64 _ _ hrm1 (by decide)]
            go_wp2_with fail
            exact ⟨⟨i + 1, sbit t, by omega, by simp, by first | rw [HSB.out] | (rw [HSB.out]; simp), sbit_lt t1, HNX.out, by first | trivial | rfl⟩, by simp [intOf]; omega⟩
          · obtain rfl : q = 0 := by omega
            have HSB : Hid (((sbit t : Nat) : Int) = (rm : Int)) := by
              show _ = _
              rw [HSR.out, if_neg hh]
            go_wp2_with fail
            exact ⟨⟨i + 1, sbit t, by omega, by simp, by first | rw [HSB.out] | (rw [HSB.out]; simp), sbit_lt t1, HNX.out, by first | trivial | rfl⟩, by simp [intOf]; omega⟩
        · obtain rfl : i = 8 := by omega
          have HE : Hid (t = sbits 8 x) := HCB.out
          have HG3 : Hid (ssum t (bs.drop (k + 1)) = r) := by rw [HE.out]; exact HG2.out
          clear HCB HE HG2
          go_wp2_with fail
          exact ⟨⟨k + 1, t, by omega, by simp, rfl, t1, HG3.out, by first | trivial | rfl⟩, by simp [intOf]; omega⟩
    · obtain rfl : L = k := by omega
      have HE : Hid (s = r) := by
        have h1 := HG.out
        rw [List.drop_of_length_le (by rw [HLX.out]; omega)] at h1
        exact h1
      clear HG
      go_wp2_with fail
      go_ret
      exact ⟨ret_i64 (by rw [HE.out]), rfl⟩
end Go.Proofs.Ytghlgkpfcpcopaa.Pv
