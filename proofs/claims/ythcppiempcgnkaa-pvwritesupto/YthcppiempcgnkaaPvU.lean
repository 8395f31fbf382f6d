/- The document's prefixes as bytes, and its sum. -/
import Derived.Test.YthcppiempcgnkaaPvQ
namespace Go.Proofs.Ythcppiempcgnkaa.Pv
open Go.ChangeShapes Go.WideShapes Go.ChangeAt Go.RowKit Go.Joins Go.Proofs.Ythcppiempcgnkaa.PM Go.Proofs.Ythcppiempcgnkaa.Ask Go.Proofs.Ythcppiempcgnkaa.Ge
set_option linter.unusedVariables false

theorem big1' {k : Nat} (h : k < 256) : big 1 k = [k] := by
  unfold big
  simp [List.range_succ]
  omega
theorem pfx_at (A z i : Nat) (hz : z ≤ 4) (hi : i < z) : (big z (A / 2 ^ (32 - 8 * z)))[i]'(by rw [big_len]; exact hi) = A / 2 ^ (24 - 8 * i) % 256 := by
  simp only [big, List.getElem_map, List.getElem_range]
  rw [Nat.div_div_eq_div_mul, ← Nat.pow_add]
  congr 3
  omega
set_option maxRecDepth 100000 in
set_option maxHeartbeats 8000000 in
theorem rprefixes_any (va : Option Addr) (cap : Nat) (ps : List (Int × Int)) (n : Nat) (hn : ps.length = n) (hbig : n ≤ 100000) (w : World) (hl : Lst E2 w va ps) (hp : ∀ p ∈ ps, InA p) (hv : ∀ p ∈ ps, 0 ≤ p.2 ∧ p.2 ≤ 32) :
    Calls Try.prog 24 #[.slice va n cap] w fun e w' => ∃ v, e = .returned v ∧ OwnL E8 w.heap.size w' v (pfxsB ps) ∧ Below w.heap.size w w' := by
  have HL : Hid (Lst E2 w va ps) := hl
  have HP : Hid (∀ p ∈ ps, InA p) := hp
  have HV : Hid (∀ p ∈ ps, 0 ≤ p.2 ∧ p.2 ≤ 32) := hv
  have HN : Hid (ps.length = n) := hn
  clear hl hp hn hv
  go_enter Try.func24, Try.ntmps24
  go_wp2_with fail
  go_loopw [3, 9] (fun bv iv wr => ∃ i : Nat, i ≤ n ∧ iv = .int .i64 (i : Int) ∧ OwnL E8 w.heap.size wr bv (pfxsB (ps.take i)) ∧ Below w.heap.size w wr) (fun _ i _ => n - (intOf i).toNat)
  case atStart => exact ⟨0, by omega, rfl, OwnL.nil _ _ _, Below.refl _ _⟩
  case round =>
    obtain ⟨i, hi, rfl, ho, hb⟩ := hrel
    have HO : Hid (OwnL E8 w.heap.size wr u3 (pfxsB (ps.take i))) := ho
    have HB : Hid (Below w.heap.size w wr) := hb
    clear ho hb
    by_cases hlt : i < n
    · have hil : i < ps.length := by rw [HN.out]; exact hlt
      obtain ⟨b, o, rfl, hbl, c0, c1⟩ := lst2 (HL.out.bel HB.out) i hil
      have hin := HP.out _ (List.getElem_mem hil)
      have hvl := HV.out _ (List.getElem_mem hil)
      have HNX : Hid (pfxsB (ps.take (i + 1)) = pfxsB (ps.take i) ++ pfxB ps[i]) := pfxsB_snoc ps i hil
      have hlen : (pfxsB (ps.take i)).length ≤ 500000 := by
        have h1 := (pfxsB_len (ps := ps.take i) (fun p hp => by have := HV.out p (List.mem_of_mem_take hp); omega)).1
        rw [List.length_take] at h1
        omega
      obtain ⟨⟨pa, pn⟩, hpp⟩ : ∃ p, ps[i] = p := ⟨_, rfl⟩
      rw [hpp] at c0 c1 hin hvl HNX
      obtain ⟨p0, p1⟩ := hin
      obtain ⟨q0, q1⟩ := hvl
      dsimp only at p0 p1 q0 q1 c0 c1
      obtain ⟨A, rfl⟩ : ∃ A : Nat, pa = A := ⟨pa.toNat, by omega⟩
      obtain ⟨L, rfl⟩ : ∃ L : Nat, pn = L := ⟨pn.toNat, by omega⟩
      have hL : L ≤ 32 := by omega
      obtain ⟨z, hz⟩ : ∃ z, bsz L = z := ⟨_, rfl⟩
      have hz4 : z ≤ 4 := by rw [← hz]; exact bsz_le hL
      have HZ : Hid (∀ k : Nat, k < z ↔ 8 * k < L) := fun k => by rw [← hz]; unfold bsz; omega
      obtain ⟨Y, hY⟩ : ∃ q, big z (A / 2 ^ (32 - 8 * z)) = q := ⟨_, rfl⟩
      have HYL : Hid (Y.length = z) := by rw [← hY]; exact big_len _ _
      have HYA : Hid (∀ k (h : k < Y.length), k < z → Y[k] = A / 2 ^ (24 - 8 * k) % 256) := fun k h hk => by subst hY; exact pfx_at A z k hz4 hk
      have HQ : Hid (pfxB ((A : Int), (L : Int)) = [L] ++ Y) := by
        unfold pfxB
        show big 1 ((L : Int).toNat) ++ big (bsz (L : Int).toNat) ((A : Int).toNat / 2 ^ (32 - 8 * bsz (L : Int).toNat)) = _
        rw [Int.toNat_natCast, Int.toNat_natCast, hz, hY, big1' (by omega)]
      have hLu : IntKind.u8.wrap (L : Int) = (L : Int) := by rw [IntKind.wrap_u8]; omega
      have hii : (i : Int) < n := by omega
      have ii0 : (0 : Int) ≤ i := by omega
      obtain ⟨bs, hbs⟩ : ∃ b, pfxsB (ps.take i) = b := ⟨_, rfl⟩
      rw [hbs] at HO HNX hlen
      clear hz hY hpp hbs
      go_upto_region 5 with fail
      obtain ⟨wA, hwA⟩ : ∃ wA, wr.alloc (Obj.cells #[.int .u32 (A : Int), .int .i64 (L : Int)] 25) = wA := ⟨_, rfl⟩
      obtain ⟨sa, hsa⟩ : ∃ k, wr.heap.size = k := ⟨_, rfl⟩
      have hbA : Below wr.heap.size wr wA := by rw [← hwA]; exact (Below.refl _ wr).alloc (Nat.le_refl _) _
      have d0 : wA.cell? ⟨sa, 0, none⟩ = some (.int .u32 (A : Int)) := by rw [← hwA, ← hsa]; simp
      have d1 : wA.cell? ⟨sa, 1, none⟩ = some (.int .i64 (L : Int)) := by rw [← hwA, ← hsa]; simp
      have hsA : sa < wA.heap.size := by rw [← hwA, ← hsa]; simp
      have HOA : Hid (OwnL E8 w.heap.size wA u3 bs) := HO.out.bel hbA
      have HBA : Hid (Below w.heap.size w wA) := HB.out.trans (hbA.mono HB.out.size)
      have HNE : Hid (¬ u3.ownBlock = some sa) := fun e => by have := (HO.out.row.lt sa e).2; omega
      have HDC : Hid (∀ W : World, W.heap[sa]? = wA.heap[sa]? → W.cell? ⟨sa, 0, none⟩ = some (.int .u32 (A : Int)) ∧ W.cell? ⟨sa, 1, none⟩ = some (.int .i64 (L : Int))) := fun W h => ⟨(World.cell?_of_block (w := wA) h).trans d0, (World.cell?_of_block (w := wA) h).trans d1⟩
      rw [hwA, hsa]
      obtain ⟨wB, hwB⟩ : ∃ W, wA.alloc (Obj.cells #[.int .u8 (L : Int)] 5) = W := ⟨_, rfl⟩
      have HWE : Hid (wA.alloc (Obj.cells (E8.enc L).toArray E8.e) = wB) := hwB
      have hbB : Below wA.heap.size wA wB := by rw [← hwB]; exact (Below.refl _ wA).alloc (Nat.le_refl _) _
      have HOB : Hid (OwnL E8 w.heap.size wB u3 bs) := HOA.out.bel hbB
      have HBB : Hid (Below w.heap.size w wB) := HBA.out.trans (hbB.mono HBA.out.size)
      have HSB : Hid (wB.heap[sa]? = wA.heap[sa]?) := hbB.block sa hsA
      have hsB : sa < wB.heap.size := Nat.lt_of_lt_of_le hsA hbB.size
      have hby : bs.length ≤ 1099511627775 := by omega
      clear hwA hsa hbA HO c0 c1 hbB
      go_wp2_with (at_builtin; refine list_app1 E8 rfl _ _ 32 rfl rfl w.heap.size u3 bs L hby (w := wA) wB rfl HOB.out rfl HBB.out.size HWE.out.symm ?_)
      intro v1 w1 ho1 hg1 hat1
      have HO1 : Hid (OwnL E8 w.heap.size w1 v1 (bs ++ [L])) := ho1.out
      have HB1 : Hid (Below w.heap.size w w1) := HBB.out.grown hg1.out HBB.out.size (fun g e => (HOB.out.row.lt g e).1)
      have HS1 : Hid (w1.heap[sa]? = wA.heap[sa]?) := (hg1.out.block sa hsB (fun e => HNE.out e.symm)).trans HSB.out
      have HN1 : Hid (¬ v1.ownBlock = some sa) := fun e => by
        rcases hat1.out with e2 | e2
        · exact HNE.out (by rw [← e2]; exact e)
        · rw [e2] at e; cases e; omega
      have hs1 : sa < w1.heap.size := Nat.lt_of_lt_of_le hsB hg1.out.size
      clear ho1 hg1 hat1 d0 d1 hwB HWE HOB HBB HOA HBA HSB hsB
      go_wp2_with fail
      go_loopw [3, 6] (fun bv iv wr2 => ∃ k : Nat, k ≤ z ∧ iv = .int .i64 (k : Int) ∧ OwnL E8 w.heap.size wr2 bv (bs ++ [L] ++ Y.take k) ∧ Below w.heap.size w wr2 ∧ wr2.heap[sa]? = wA.heap[sa]? ∧ (¬ bv.ownBlock = some sa) ∧ sa < wr2.heap.size) (fun _ i _ => z - (intOf i).toNat)
      case atStart => exact ⟨0, by omega, rfl, by simpa using HO1.out, HB1.out, HS1.out, HN1.out, hs1⟩
      case round =>
        obtain ⟨k, hk, rfl, hox, hbx, hsx, hnx, hlx⟩ := hrel
        have HO2 : Hid (OwnL E8 w.heap.size wr u3 (bs ++ [L] ++ Y.take k)) := hox
        have HB2 : Hid (Below w.heap.size w wr) := hbx
        have HS2 : Hid (wr.heap[sa]? = wA.heap[sa]?) := hsx
        have HN2 : Hid (¬ u3.ownBlock = some sa) := hnx
        clear hox hbx hsx hnx
        obtain ⟨d0, d1⟩ := HDC.out wr HS2.out
        obtain ⟨e8, he8⟩ : ∃ e, 8 * k = e := ⟨_, rfl⟩
        have w8 : IntKind.i64.wrap (8 * (k : Int)) = (e8 : Int) := by rw [IntWalk.i64_in _ (by omega)]; omega
        by_cases hkz : k < z
        · have hk8 : (e8 : Int) < (L : Int) := by have := (HZ.out k).1 hkz; omega
          obtain ⟨f8, hf8⟩ : ∃ f, 24 - 8 * k = f := ⟨_, rfl⟩
          have hky : k < Y.length := by rw [HYL.out]; exact hkz
          obtain ⟨c, hc⟩ : ∃ c, A / 2 ^ f8 % 256 = c := ⟨_, rfl⟩
          have hcv : (A : Int) / 2 ^ f8 % 256 = (c : Int) := by rw [← hc]; simp
          have hmin : min f8 32 = f8 := by omega
          have w9 : IntKind.i64.wrap (24 - (e8 : Int)) = (f8 : Int) := by rw [IntWalk.i64_in _ (by omega)]; omega
          obtain ⟨X, hX⟩ : ∃ x, bs ++ [L] ++ Y.take k = x := ⟨_, rfl⟩
          have HNX2 : Hid (X ++ [c] = bs ++ [L] ++ Y.take (k + 1)) := by
            show _ = _
            rw [← hX, List.take_succ_eq_append_getElem hky, HYA.out k hky hkz, hf8, hc, List.append_assoc (bs ++ [L])]
          rw [hX] at HO2
          have hxl : X.length ≤ 1099511627775 := by
            rw [← hX, List.length_append, List.length_append, List.length_take]
            simp
            omega
          obtain ⟨W, hW⟩ : ∃ W, wr.alloc (Obj.cells #[.int .u8 (c : Int)] 5) = W := ⟨_, rfl⟩
          have HWE : Hid (wr.alloc (Obj.cells (E8.enc c).toArray E8.e) = W) := hW
          have hbl2 : Below wr.heap.size wr W := by rw [← hW]; exact (Below.refl _ wr).alloc (Nat.le_refl _) _
          have HWA : Hid (OwnL E8 w.heap.size W u3 X) := HO2.out.bel hbl2
          have HBW : Hid (Below w.heap.size w W) := HB2.out.trans (hbl2.mono HB2.out.size)
          have HSW : Hid (W.heap[sa]? = wA.heap[sa]?) := (hbl2.block sa hlx).trans HS2.out
          have hsW : sa < W.heap.size := Nat.lt_of_lt_of_le hlx hbl2.size
          clear hX hc hbl2 hf8 he8
          go_wp2_with (at_builtin; refine list_app1 E8 rfl _ _ 32 rfl rfl w.heap.size u3 X c hxl (w := wr) W rfl HWA.out rfl HBW.out.size HWE.out.symm ?_)
          intro v2 w2 ho2 hg2 hat2
          have HO3 : Hid (OwnL E8 w.heap.size w2 v2 (bs ++ [L] ++ Y.take (k + 1))) := by rw [← HNX2.out]; exact ho2.out
          have HB3 : Hid (Below w.heap.size w w2) := HBW.out.grown hg2.out HBW.out.size (fun g e => (HWA.out.row.lt g e).1)
          have HS3 : Hid (w2.heap[sa]? = wA.heap[sa]?) := (hg2.out.block sa hsW (fun e => HN2.out e.symm)).trans HSW.out
          have HN3 : Hid (¬ v2.ownBlock = some sa) := fun e => by
            rcases hat2.out with e2 | e2
            · exact HN2.out (by rw [← e2]; exact e)
            · rw [e2] at e; cases e; omega
          have hs3 : sa < w2.heap.size := Nat.lt_of_lt_of_le hsW hg2.out.size
          clear ho2 hg2 hat2
          go_wp2_with fail
          exact ⟨⟨k + 1, by omega, by simp, HO3.out, HB3.out, HS3.out, HN3.out, hs3⟩, by simp [intOf]; omega⟩
        · obtain rfl : k = z := by omega
          have hk8 : ¬ (e8 : Int) < (L : Int) := by have := (HZ.out k).2; omega
          clear he8
          have HO3 : Hid (OwnL E8 w.heap.size wr u3 (pfxsB (ps.take (i + 1)))) := by
            rw [HNX.out, HQ.out, ← List.append_assoc]
            have := HO2.out
            rw [List.take_of_length_le (by rw [HYL.out]; exact Nat.le_refl _)] at this
            exact this
          clear HO2
          go_wp2_with fail
          exact ⟨⟨i + 1, by omega, by simp, HO3.out, HB2.out⟩, by simp [intOf]; omega⟩
    · obtain rfl : i = n := by omega
      have HE : Hid (OwnL E8 w.heap.size wr u3 (pfxsB ps)) := by
        have h1 := HO.out
        rw [List.take_of_length_le (by have := HN.out; omega)] at h1
        exact h1
      obtain ⟨va5, vc5, rfl, -⟩ := HE.out.form
      obtain ⟨vl, hvl⟩ : ∃ q, (pfxsB ps).length = q := ⟨_, rfl⟩
      rw [hvl] at HE
      rw [hvl]
      clear HO hvl
      go_wp2_with fail
      go_ret
      exact ⟨_, rfl, HE.out, HB.out⟩
theorem bits_xor64 (a b : Nat) (ha : a < 65536) (hb : b < 65536) : bits .xor .i64 (a : Int) (b : Int) = ((a ^^^ b : Nat) : Int) := by
  have ha' : a % 2 ^ IntKind.i64.bits = a := Nat.mod_eq_of_lt (Nat.lt_of_lt_of_le ha (by decide))
  have hb' : b % 2 ^ IntKind.i64.bits = b := Nat.mod_eq_of_lt (Nat.lt_of_lt_of_le hb (by decide))
  have h := xor_lt16 ha hb
  simp only [bits, BitVec.ofInt_natCast, BitVec.toNat_xor, BitVec.toNat_ofNat, ha', hb']
  rw [IntWalk.i64_in _ (by omega)]
theorem sbit_ref (s : Nat) (hs : s < 65536) : sbit s = if s / 32768 = 1 then (s * 2 % 65536) ^^^ 4129 else s * 2 % 65536 := by
  have h2 : s / 32768 < 2 := by omega
  unfold sbit
  split
  · rename_i h; rw [h]
  · rename_i h
    have : s / 32768 = 0 := by omega
    rw [this]
    simp
set_option maxRecDepth 100000 in
set_option maxHeartbeats 8000000 in
theorem rsum_any (va : Option Addr) (cap : Nat) (bs : List Nat) (L : Nat) (hL : bs.length = L) (w : World) (hx : Lst E8 w va bs) (hu : ∀ d ∈ bs, d < 256) (r : Nat) (hr : ssum 65535 bs = r) :
    Calls Try.prog 32 #[.slice va L cap] w fun e w' => e = .returned (.int .i64 (r : Int)) ∧ w' = w := by
  have HX : Hid (Lst E8 w va bs) := hx
  have HU : Hid (∀ d ∈ bs, d < 256) := hu
  have HLX : Hid (bs.length = L) := hL
  have HR : Hid (ssum 65535 bs = r) := hr
  have hl9 := hx.small
  rw [hL] at hl9
  clear hx hL hr hu
  go_enter Try.func32, Try.ntmps32
  go_wp2_with fail
  go_loopw [3, 10] (fun sv iv wr => ∃ (k s : Nat), k ≤ L ∧ iv = .int .i64 k ∧ sv = .int .i64 (s : Int) ∧ s < 65536 ∧ ssum s (bs.drop k) = r ∧ wr = w) (fun _ i _ => L - (intOf i).toNat)
  case atStart => exact ⟨0, 65535, by omega, rfl, rfl, by decide, HR.out, rfl⟩
  case round =>
    obtain ⟨k, s, hk, rfl, rfl, s1, hg, hwr⟩ := hrel
    subst hwr
    have HG : Hid (ssum s (bs.drop k) = r) := hg
    clear hg
    by_cases hlt : k < L
    · have hkd : k < bs.length := by rw [HLX.out]; exact hlt
      obtain ⟨b, o, rfl, hbl, c0⟩ := lst8 HX.out k hkd
      have hu := HU.out _ (List.getElem_mem hkd)
      obtain ⟨d, hd⟩ : ∃ c, bs[k] = c := ⟨_, rfl⟩
      rw [hd] at c0 hu
      obtain ⟨x, hx⟩ : ∃ x, s ^^^ (d * 256) = x := ⟨_, rfl⟩
      have hx1 : x < 65536 := by rw [← hx]; exact xor_lt16 s1 (by omega)
      have HG2 : Hid (ssum (sbits 8 x) (bs.drop (k + 1)) = r) := by
        have h1 := HG.out
        rw [List.drop_eq_getElem_cons hkd, hd] at h1
        rw [← hx]
        exact h1
      have e1 : (d : Int) * 256 = ((d * 256 : Nat) : Int) := by omega
      have hxx : bits .xor .i64 (s : Int) ((d : Int) * 256) = (x : Int) := by rw [e1, bits_xor64 _ _ s1 (by omega), hx]
      have hkk : (k : Int) < L := by omega
      have kk0 : (0 : Int) ≤ k := by omega
      clear hd HG hx e1
      go_wp2_with fail
      go_loopw [3, 6] (fun sv iv wr2 => ∃ (i t : Nat), i ≤ 8 ∧ iv = .int .i64 i ∧ sv = .int .i64 (t : Int) ∧ t < 65536 ∧ sbits (8 - i) t = sbits 8 x ∧ wr2 = wr) (fun _ i _ => 8 - (intOf i).toNat)
      case atStart => exact ⟨0, x, by omega, rfl, by first | rfl | rw [hxx], hx1, rfl, rfl⟩
      case round =>
        obtain ⟨i, t, hi, rfl, rfl, t1, hcb, hwr2⟩ := hrel
        subst hwr2
        have HCB : Hid (sbits (8 - i) t = sbits 8 x) := hcb
        clear hcb
        by_cases hlt8 : i < 8
        · have hi8 : (i : Int) < 8 := by omega
          have HNX : Hid (sbits (8 - (i + 1)) (sbit t) = sbits 8 x) := by
            have h1 := HCB.out
            rw [show 8 - i = (8 - (i + 1)) + 1 by omega] at h1
            exact h1
          obtain ⟨q, hq⟩ : ∃ q, t / 32768 = q := ⟨_, rfl⟩
          obtain ⟨rm, hrm⟩ : ∃ q, t * 2 % 65536 = q := ⟨_, rfl⟩
          have hrm1 : rm < 65536 := by rw [← hrm]; exact Nat.mod_lt _ (by decide)
          have hq2 : q < 2 := by omega
          have ht2 : (t : Int).tdiv 32768 = (q : Int) := by rw [Int.tdiv_eq_ediv_of_nonneg (by omega)]; omega
          have ht3 : ((t : Int) * 2).tmod 65536 = (rm : Int) := by rw [Int.tmod_eq_emod_of_nonneg (by omega)]; omega
          have HSR : Hid (sbit t = if q = 1 then rm ^^^ 4129 else rm) := by show _ = _; rw [sbit_ref t t1, hq, hrm]
          clear hq hrm
          by_cases hh : q = 1
          · subst hh
            have HSB : Hid (((sbit t : Nat) : Int) = bits .xor .i64 (rm : Int) 4129) := by
              have e3 : (4129 : Int) = ((4129 : Nat) : Int) := rfl
              show _ = _
              rw [HSR.out, if_pos rfl, e3, bits_xor64 _ _ hrm1 (by decide)]
            go_wp2_with fail
            exact ⟨⟨i + 1, sbit t, by omega, by simp, by first | rw [HSB.out] | (rw [HSB.out]; simp), sbit_lt t1, HNX.out, by first | trivial | rfl⟩, by simp [intOf]; omega⟩
          · obtain rfl : q = 0 := by omega
            have HSB : Hid (((sbit t : Nat) : Int) = (rm : Int)) := by
              show _ = _
              rw [HSR.out, if_neg hh]
            go_wp2_with fail
            exact ⟨⟨i + 1, sbit t, by omega, by simp, by first | rw [HSB.out] | (rw [HSB.out]; simp), sbit_lt t1, HNX.out, by first | trivial | rfl⟩, by simp [intOf]; omega⟩
        · obtain rfl : i = 8 := by omega
          have HE : Hid (t = sbits 8 x) := HCB.out
          have HG3 : Hid (ssum t (bs.drop (k + 1)) = r) := by rw [HE.out]; exact HG2.out
          clear HCB HE HG2
          go_wp2_with fail
          exact ⟨⟨k + 1, t, by omega, by simp, rfl, t1, HG3.out, by first | trivial | rfl⟩, by simp [intOf]; omega⟩
    · obtain rfl : L = k := by omega
      have HE : Hid (s = r) := by
        have h1 := HG.out
        rw [List.drop_of_length_le (by rw [HLX.out]; omega)] at h1
        exact h1
      clear HG
      go_wp2_with fail
      go_ret
      exact ⟨ret_i64 (by rw [HE.out]), rfl⟩
end Go.Proofs.Ythcppiempcgnkaa.Pv
