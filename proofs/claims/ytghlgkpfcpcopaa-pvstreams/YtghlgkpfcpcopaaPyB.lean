/- The document's reading of prefixes. -/
import Derived.Test.YtghlgkpfcpcopaaPyA
import Derived.Test.YtghlgkpfcpcopaaPwD
namespace Go.Proofs.Ytghlgkpfcpcopaa.Pv
open Go.ChangeShapes Go.WideShapes Go.ChangeAt Go.RowKit Go.Joins Go.Proofs.Ytghlgkpfcpcopaa.PM Go.Proofs.Ytghlgkpfcpcopaa.Ask Go.Proofs.Ytghlgkpfcpcopaa.Ge
set_option linter.unusedVariables false

theorem num_zeros (a : List Nat) (k : Nat) : num (a ++ List.replicate k 0) = num a * 256 ^ k := by
  induction k with
  | zero => simp
  | succ k ih =>
    rw [List.replicate_succ', ← List.append_assoc, num_snoc, ih, Nat.pow_succ, Nat.mul_assoc]
    rfl
/-- a slice's length -/
def slen : Value → Nat
  | .slice _ n _ => n
  | _ => 0
/-- what is still to be read, and what has been -/
structure RdI (w : World) (xs : List Nat) (wr : World) (va : Option Addr) (cap : Nat) (r : List Nat) (lv : Value) (ps : List (Int × Int)) : Prop where
  l : Lst E8 w va r
  cap : r.length ≤ cap
  u8 : ∀ d ∈ r, d < 256
  own : OwnL E2 w.heap.size wr lv ps
  bel : Below w.heap.size w wr
  so : pfxsR xs = (pfxsR r).map (fun q => ps ++ q)
  n : ps.length + r.length ≤ xs.length
set_option maxRecDepth 100000 in
set_option maxHeartbeats 8000000 in
theorem dread_any (a : Option Addr) (n c : Nat) (xs : List Nat) (w : World) (h : Lst E8 w a xs) (hn : xs.length = n) (hc : n ≤ c) (hu : ∀ d ∈ xs, d < 256) (hs : n ≤ 1048576) :
    Calls Try.prog 44 #[.slice a n c] w fun e w' => ∃ v, e = .returned (.tuple #[v, .bool (pfxsR xs).isSome]) ∧ OwnL E2 w.heap.size w' v ((pfxsR xs).getD []) ∧ Below w.heap.size w w' := by
  have HI0 : Hid (RdI w xs w a c xs (.slice none 0 0) []) := ⟨h, by omega, hu, OwnL.nil _ _ _, Below.refl _ _, by simp, by simp⟩
  have HLN : Hid (xs.length = n) := hn
  obtain ⟨R, hR⟩ : ∃ R, pfxsR xs = R := ⟨_, rfl⟩
  have HR : Hid (pfxsR xs = R) := hR
  rw [hR]
  clear h hn hc hu hR
  go_enter Try.func44, Try.ntmps44
  go_wp2_with fail
  go_loopw [0, 4] (fun bv lv wr => ∃ (va : Option Addr) (cap : Nat) (r : List Nat) (ps : List (Int × Int)), bv = .slice va r.length cap ∧ RdI w xs wr va cap r lv ps) (fun bv _ _ => slen bv)
  case atStart => exact ⟨a, c, xs, [], by rw [HLN.out], HI0.out⟩
  case round =>
    obtain ⟨va, cap, r, ps, rfl, hi⟩ := hrel
    have HI : Hid (RdI w xs wr va cap r u4 ps) := hi
    obtain ⟨m, hm⟩ : ∃ m, r.length = m := ⟨_, rfl⟩
    have HM : Hid (r.length = m) := hm
    rw [hm]
    have hcap := hi.cap
    have hnn := hi.n
    rw [hm] at hcap hnn
    rw [HLN.out] at hnn
    clear hi hm HI0
    by_cases h0 : m = 0
    · subst h0
      have hr0 : r = [] := List.length_eq_zero_iff.1 HM.out
      have hso := HI.out.so
      rw [hr0, pfxsR_nil, HR.out] at hso
      simp only [Option.map_some, List.append_nil] at hso
      have HRE : Hid (R = some ps) := hso
      obtain ⟨la, lc, hv4, -⟩ := HI.out.own.form
      obtain ⟨ll, hll⟩ : ∃ q, ps.length = q := ⟨_, rfl⟩
      rw [hll] at hv4
      subst hv4
      clear hso hll hr0
      go_wp2_with fail
      refine bodyPost_ret (v := .tuple #[.slice la ll lc, .bool true]) (by simp [results, Try.results44, go_sem]) rfl ?_
      refine ⟨.slice la ll lc, ?_, ?_, HI.out.bel⟩
      · rw [HRE.out]; rfl
      · rw [HRE.out]; exact HI.out.own
    · have hm1 : 1 ≤ r.length := by rw [HM.out]; omega
      have hm0i : (0 : Int) < (m : Int) := by omega
      obtain ⟨b, o, rfl, hbl, c0w⟩ := lst8 HI.out.l 0 (by omega)
      have c0 : wr.cell? ⟨b, o, none⟩ = some (.int .u8 (r[0] : Int)) := by
        have h5 := lst8 (HI.out.l.bel HI.out.bel) 0 (by omega)
        obtain ⟨b', o', e, -, h6⟩ := h5
        cases e
        simpa using h6
      obtain ⟨t, ht⟩ : ∃ t, r[0] = t := ⟨_, rfl⟩
      have ht8 : t < 256 := by rw [← ht]; exact HI.out.u8 _ (List.getElem_mem _)
      rw [ht] at c0
      have HT1 : Hid (num (r.take 1) = t) := by
        show _ = _
        have h5 := num_take r 0 (by omega)
        rw [ht] at h5
        simpa [num] using h5
      have hwt : IntKind.i64.wrap (t : Int) = (t : Int) := by rw [IntWalk.i64_in _ (by omega)]
      obtain ⟨z, hz⟩ : ∃ z, bsz t = z := ⟨_, rfl⟩
      have HZ : Hid (bsz t = z) := hz
      have hz32 : z ≤ 32 := by rw [← hz]; unfold bsz; omega
      have hdiv : ((t : Int) + 7) / 8 = (z : Int) := by rw [← hz]; unfold bsz; omega
      have hwz : IntKind.i64.wrap (z : Int) = (z : Int) := by rw [IntWalk.i64_in _ (by omega)]
      clear ht hz c0w
      by_cases h32 : 32 < t
      · have h32i : (32 : Int) < (t : Int) := by omega
        have hso := HI.out.so
        rw [pfxsR_cons (r := r) (by omega), rpfx_big hm1 HT1.out h32, HR.out] at hso
        have HRE : Hid (R = none) := hso
        clear hso
        go_wp2_with fail
        refine bodyPost_ret (v := .tuple #[.slice none 0 0, .bool false]) (by simp [results, Try.results44, go_sem]) rfl ?_
        exact ⟨.slice none 0 0, by rw [HRE.out]; rfl, by rw [HRE.out]; exact OwnL.nil _ _ _, HI.out.bel⟩
      · have h32i : ¬ (32 : Int) < (t : Int) := by omega
        by_cases hzm : 1 + z ≤ m
        · have hzmi : ¬ (m : Int) < 1 + (z : Int) := by omega
          have hz4 : z ≤ 4 := by rw [← HZ.out]; unfold bsz; omega
          obtain ⟨pc, hpc⟩ : ∃ y, (r.drop 1).take z = y := ⟨_, rfl⟩
          have HPC : Hid ((r.drop 1).take z = pc) := hpc
          have hpl : pc.length = z := by rw [← hpc, List.length_take, List.length_drop, HM.out]; omega
          have HPL : Hid (pc.length = z) := hpl
          have HPU : Hid (∀ d ∈ pc, d < 256) := fun d hd => HI.out.u8 d (by rw [← HPC.out] at hd; exact List.mem_of_mem_drop (List.mem_of_mem_take hd))
          obtain ⟨r2, hr2⟩ : ∃ y, (r.drop 1).drop z = y := ⟨_, rfl⟩
          have HR2 : Hid ((r.drop 1).drop z = r2) := hr2
          have HSO : Hid (pfxsR xs = (pfxsR r2).map (fun q => (ps ++ [pfV (num pc) z t]) ++ q)) := by
            show _ = _
            rw [HI.out.so, pfxsR_cons (r := r) (by omega), rpfx_ok hm1 HT1.out h32 HZ.out (by rw [List.length_drop, HM.out]; omega) rfl, hr2, hpc]
            dsimp only
            cases pfxsR r2 with
            | none => rfl
            | some q => simp
          obtain ⟨ho6, hb6⟩ := own_made0 E8 (W := wr) rfl
          have HO6 : Hid (OwnL E8 wr.heap.size (wr.alloc (Obj.cells #[] 5)) (.slice (some ⟨wr.heap.size, 0, none⟩) 0 0) []) := ho6
          have HB6 : Hid (Below wr.heap.size wr (wr.alloc (Obj.cells #[] 5))) := hb6
          have HN6 : Hid (wr.heap.size ≤ (wr.alloc (Obj.cells #[] 5)).heap.size) := hb6.size
          have HL6 : Hid (([] : List Nat).length + (1 + z - 1) ≤ 1099511627775) := by show _ ≤ _; simp; omega
          have HLW : Hid (Lst E8 (wr.alloc (Obj.cells #[] 5)) (some ⟨b, o, none⟩) r) := (HI.out.l.bel HI.out.bel).bel hb6
          have hzc : 1 + (z : Int) ≤ (cap : Int) := by omega
          have hz1 : (1 : Int) ≤ 1 + (z : Int) := by omega
          have hz0 : (0 : Int) ≤ (z : Int) := by omega
          clear ho6 hb6 hpc hr2 hpl
          have HNZ : Hid (num pc * 2 ^ (32 - 8 * z) < 4294967296) := by
            show _ < _
            have h5 := (num_ltk HPU.out z (by rw [HPL.out]; exact Nat.le_refl _) hz4).2
            rw [List.take_of_length_le (by rw [HPL.out]; exact Nat.le_refl _)] at h5
            exact h5
          have HPL2 : Hid (pc.length = 1 + z - 1) := by show _ = _; rw [HPL.out]; omega
          have HP6 : Hid (∀ va : Option Addr, (¬ cap = 1 → va = some ⟨b, o + 1, none⟩) → Lst E8 (wr.alloc (Obj.cells #[] 5)) va pc) := by
            intro va hva
            by_cases hc1 : cap = 1
            · have : pc = [] := List.length_eq_zero_iff.1 (by rw [HPL.out]; omega)
              rw [this]
              exact ⟨by simp, fun i hi => absurd hi (by simp)⟩
            · rw [hva hc1]
              have h5 := (HLW.out.drop 1).take z
              rw [HPC.out] at h5
              exact h5
          have hcz : cap = 1 → z = 0 ∧ m = 1 := fun e => by omega
          by_cases hc1 : cap = 1
          case' pos =>
            have HMZ : Hid (m ≤ 1 + z ∨ 1 + z < 1) := .inl (by have := hcz hc1; omega)
            clear hcz
            subst hc1
          case' neg =>
            have HMZ : Hid (m ≤ 1 + z ∨ 1 + z < cap) := by show _ ∨ _; omega
            clear hcz
          all_goals
            go_wp2_with (at_builtin; refine list_appL E8 rfl _ _ 22 rfl rfl wr.heap.size (.slice (some ⟨wr.heap.size, 0, none⟩) 0 0) [] pc _ _ _ _ HL6.out rfl HO6.out rfl (HP6.out _ (fun h => by first | exact absurd rfl h | rfl)) (fun e => by cases e) HPL2.out HN6.out ?_)
            intro v7 w7 ho7 hg7 ha7
            have HO7 : Hid (OwnL E8 wr.heap.size w7 v7 pc) := ho7.out
            have HB7 : Hid (Below wr.heap.size wr w7) := HB6.out.grown hg7.out HN6.out (fun g e => (HO6.out.row.lt g e).1)
            clear ho7 hg7 ha7 HO6 HB6 HN6 HL6 HLW HP6 HPL2
            go_wp2_with fail
            obtain ⟨w0, rfl⟩ : ∃ x, x = wr := ⟨_, rfl⟩
            go_loopw [7] (fun av wq => ∃ j : Nat, z + j ≤ 4 ∧ OwnL E8 w0.heap.size wq av (pc ++ List.replicate j 0) ∧ Below w0.heap.size w0 wq) (fun av _ => 4 - slen av)
            case atStart => exact ⟨0, by omega, by simpa using HO7.out, HB7.out⟩
            case round =>
              obtain ⟨j, hj, ho8, hb8⟩ := hrel
              have HO8 : Hid (OwnL E8 w0.heap.size wr u7 (pc ++ List.replicate j 0)) := ho8
              have HB8 : Hid (Below w0.heap.size w0 wr) := hb8
              obtain ⟨L, hL⟩ : ∃ L, z + j = L := ⟨_, rfl⟩
              have HL : Hid (z + j = L) := hL
              have HLN8 : Hid ((pc ++ List.replicate j 0).length = L) := by show _ = _; rw [List.length_append, List.length_replicate, HPL.out]; exact hL
              obtain ⟨va8, vc8, hv8, hvc8, -⟩ := ho8.form
              rw [HLN8.out] at hv8
              subst hv8
              rw [hL] at hj
              clear ho8 hb8 hL hvc8
              by_cases hlt : L < 4
              · have hlti : (L : Int) < 4 := by omega
                obtain ⟨W, hW⟩ : ∃ W, wr.alloc (Obj.cells #[.int .u8 0] 5) = W := ⟨_, rfl⟩
                have HWE : Hid (wr.alloc (Obj.cells (E8.enc 0).toArray E8.e) = W) := hW
                have hbl1 : Below wr.heap.size wr W := by rw [← hW]; exact (Below.refl _ wr).alloc (Nat.le_refl _) _
                have HWA : Hid (OwnL E8 w0.heap.size W (.slice va8 L vc8) (pc ++ List.replicate j 0)) := HO8.out.bel hbl1
                have HWB : Hid (Below w0.heap.size w0 W) := HB8.out.trans (hbl1.mono HB8.out.size)
                have HNW : Hid (w0.heap.size ≤ W.heap.size) := HWB.out.size
                have HBY : Hid ((pc ++ List.replicate j 0).length ≤ 1099511627775) := by show _ ≤ _; rw [HLN8.out]; omega
                clear hbl1
                go_wp2_with (at_builtin; refine list_app1 E8 rfl _ _ 22 rfl rfl w0.heap.size (.slice va8 L vc8) (pc ++ List.replicate j 0) 0 HBY.out (w := wr) W rfl HWA.out rfl HNW.out HWE.out.symm ?_)
                intro v9 w9 ho9 hg9 ha9
                have HO9 : Hid (OwnL E8 w0.heap.size w9 v9 (pc ++ List.replicate (j + 1) 0)) := by
                  have h5 := ho9.out
                  rw [← List.replicate_succ'] at h5
                  exact h5
                have HB9 : Hid (Below w0.heap.size w0 w9) := HWB.out.grown hg9.out HNW.out (fun g e => (HWA.out.row.lt g e).1)
                have HM9 : Hid (slen v9 = L + 1) := by
                  obtain ⟨va9, vc9, hv9, -⟩ := HO9.out.form
                  rw [List.length_append, List.length_replicate, HPL.out, show z + (j + 1) = L + 1 by have := HL.out; omega] at hv9
                  rw [hv9]
                  rfl
                clear ho9 hg9 ha9
                go_wp2_with fail
                exact ⟨⟨j + 1, by have := HL.out; omega, HO9.out, HB9.out⟩, by show 4 - slen v9 < 4 - L; rw [HM9.out]; omega⟩
              · have hlti : ¬ (L : Int) < 4 := by omega
                have hL4 : L = 4 := by omega
                have HJ : Hid (j = 4 - z) := by show _ = _; have := HL.out; omega
                have HNUM : Hid (num (pc ++ List.replicate j 0) = num pc * 2 ^ (32 - 8 * z)) := by
                  show _ = _
                  rw [num_zeros, HJ.out, show (256 : Nat) = 2 ^ 8 from rfl, ← Nat.pow_mul, show 8 * (4 - z) = 32 - 8 * z by omega]
                have HPU8 : Hid (∀ d ∈ pc ++ List.replicate j 0, d < 256) := fun d hd => by
                  rcases List.mem_append.1 hd with h | h
                  · exact HPU.out d h
                  · rw [(List.mem_replicate.1 h).2]; decide
                subst hL4
                obtain ⟨y, hy⟩ : ∃ y, num pc * 2 ^ (32 - 8 * z) = y := ⟨_, rfl⟩
                have hy32 : y < 4294967296 := by rw [← hy]; exact HNZ.out
                have HY : Hid (num (pc ++ List.replicate j 0) = y) := by show _ = _; rw [HNUM.out, hy]
                have HPV : Hid (pfV (num pc) z t = ((y : Int), (t : Int))) := by show _ = _; unfold pfV; rw [hy]
                have hyw : IntKind.u32.wrap (y : Int) = (y : Int) := by rw [IntKind.wrap_u32]; omega
                have hym : (y : Int) % 4294967296 = (y : Int) := by omega
                have HDN := dnum_any va8 4 vc8 _ wr HO8.out.lst.1 HLN8.out HPU8.out (by decide)
                rw [HY.out] at HDN
                have HDH : Hid (Calls Try.prog 25 #[.slice va8 4 vc8] wr fun e w' => e = .returned (.int .i64 (y : Int)) ∧ w' = wr) := HDN
                obtain ⟨W, hW⟩ : ∃ W, wr.alloc (Obj.cells #[.int .u32 (y : Int), .int .i64 (t : Int)] 26) = W := ⟨_, rfl⟩
                have HWE : Hid (wr.alloc (Obj.cells (E2.enc ((y : Int), (t : Int))).toArray E2.e) = W) := hW
                have hbl1 : Below wr.heap.size wr W := by rw [← hW]; exact (Below.refl _ wr).alloc (Nat.le_refl _) _
                have hbW : Below w0.heap.size w0 W := HB8.out.trans (hbl1.mono HB8.out.size)
                have HWA : Hid (OwnL E2 w.heap.size W u4 ps) := HI.out.own.bel hbW
                have HWB : Hid (Below w.heap.size w W) := HI.out.bel.trans (hbW.mono HI.out.bel.size)
                have HNW : Hid (w.heap.size ≤ W.heap.size) := HWB.out.size
                have HBY : Hid (ps.length ≤ 1099511627775) := by show _ ≤ _; omega
                clear hbl1 hbW hy HDN HNUM HNZ
                go_wp2_with (first | (go_at_call 25; refine HDH.out.mono ?_; rintro e w' ⟨rfl, hw'⟩; rw [hw']; clear hw' w') | (at_builtin; go_loud (refine list_app1 E2 rfl _ _ 23 rfl rfl w.heap.size u4 ps ((y : Int), (t : Int)) HBY.out (w := wr) W rfl HWA.out rfl HNW.out HWE.out.symm ?_)))
                intro v10 w10 ho10 hg10 ha10
                have HO10 : Hid (OwnL E2 w.heap.size w10 v10 (ps ++ [((y : Int), (t : Int))])) := ho10.out
                have HB10 : Hid (Below w.heap.size w w10) := HWB.out.grown hg10.out HNW.out (fun g e => (HWA.out.row.lt g e).1)
                have HRL2 : Hid (r2.length = m - (1 + z)) := by show _ = _; rw [← HR2.out, List.length_drop, List.length_drop, HM.out]; omega
                have HU2 : Hid (∀ d ∈ r2, d < 256) := fun d hd => HI.out.u8 d (by rw [← HR2.out] at hd; exact List.mem_of_mem_drop (List.mem_of_mem_drop hd))
                have HSO2 : Hid (pfxsR xs = (pfxsR r2).map (fun q => (ps ++ [((y : Int), (t : Int))]) ++ q)) := by rw [← HPV.out]; exact HSO.out
                have HLL2 : Hid (∀ va : Option Addr, (1 + z < m → va = some ⟨b, o + (1 + z), none⟩) → Lst E8 w va r2) := by
                  intro va hva
                  by_cases h5 : 1 + z < m
                  · rw [hva h5]
                    have h6 := HI.out.l.drop (1 + z)
                    rw [← List.drop_drop, HR2.out] at h6
                    simpa [E8] using h6
                  · have : r2 = [] := List.length_eq_zero_iff.1 (by rw [HRL2.out]; omega)
                    rw [this]
                    exact ⟨by simp, fun i hi => absurd hi (by simp)⟩
                clear ho10 hg10 ha10 HDH HWA HWB HWE HO8 HB8 HO7 HB7
                go_wp2_with fail
                refine ⟨⟨_, _, r2, ps ++ [((y : Int), (t : Int))], by rw [HRL2.out], ⟨HLL2.out _ (fun h => ?_), by rw [HRL2.out]; omega, HU2.out, HO10.out, HB10.out, HSO2.out, ?_⟩⟩, ?_⟩
                · first | (exfalso; omega) | exact if_neg (by omega)
                · rw [HRL2.out, List.length_append, HLN.out]; simp; omega
                · show m - (1 + z) < m; omega
        · have hzmi : (m : Int) < 1 + (z : Int) := by omega
          have hso := HI.out.so
          rw [pfxsR_cons (r := r) (by omega), rpfx_short hm1 HT1.out h32 HZ.out (by rw [List.length_drop, HM.out]; omega), HR.out] at hso
          have HRE : Hid (R = none) := hso
          clear hso
          go_wp2_with fail
          refine bodyPost_ret (v := .tuple #[.slice none 0 0, .bool false]) (by simp [results, Try.results44, go_sem]) rfl ?_
          exact ⟨.slice none 0 0, by rw [HRE.out]; rfl, by rw [HRE.out]; exact OwnL.nil _ _ _, HI.out.bel⟩
end Go.Proofs.Ytghlgkpfcpcopaa.Pv
