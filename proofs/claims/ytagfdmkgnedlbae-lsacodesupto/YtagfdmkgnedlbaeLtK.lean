/- lsaApart: what it answers. -/
import Derived.Test.YtagfdmkgnedlbaeLtJ
import Derived.Test.YtagfdmkgnedlbaeLsZb
namespace Go.Proofs.Ytagfdmkgnedlbae.Ls
open Go.ChangeShapes Go.WideShapes Go.ChangeAt Go.RowKit Go.Joins Go.Proofs.Ytagfdmkgnedlbae.PM Go.Proofs.Ytagfdmkgnedlbae.Ask
set_option linter.unusedVariables false

set_option maxRecDepth 100000 in
set_option maxHeartbeats 16000000 in
theorem apart_any (M : Nat) (kind frm area seen : Int) (va : Option Addr) (cap : Nat) (vb : Option Addr) (cap2 : Nat) (ys : List It) (n : Nat) (hn : ys.length = n) (hn9 : n ≤ 1048576) (hbig : ∀ y ∈ ys, y.x.links.length ≤ 1000 ∧ y.x.stubs.length ≤ 1000) (W : World) (hM : M ≤ W.heap.size) (hdo : DO M W (.slice va n cap) ys) (hw : ∀ W', Fr (blocks ys) W W' → LAll W' vb (ys.map It.x)) :
    Calls Try.prog 53 #[pkV kind frm area seen va n cap, pkV kind frm area seen vb n cap2] W fun e w' => e = .returned (.bool true) ∧ DO M w' (.slice va n cap) ys ∧ Fr (blocks ys) W w' := by
  have HN : Hid (ys.length = n) := hn
  have HBIG : Hid (∀ y ∈ ys, y.x.links.length ≤ 1000 ∧ y.x.stubs.length ≤ 1000) := hbig
  have HDO0 : Hid (DO M W (.slice va n cap) ys) := hdo
  have HW : Hid (∀ W', Fr (blocks ys) W W' → LAll W' vb (ys.map It.x)) := hw
  clear hn hbig hdo hw
  unfold pkV
  go_enter Try.func53, Try.ntmps53
  go_upto_region 1 with fail
  obtain ⟨w1, hw1⟩ : ∃ w1, (W.alloc (Obj.cells #[.int .i64 kind, .int .i64 frm, .int .i64 area, .int .i64 seen, .slice va n cap] 36)).alloc (Obj.cells #[.int .i64 kind, .int .i64 frm, .int .i64 area, .int .i64 seen, .slice vb n cap2] 36) = w1 := ⟨_, rfl⟩
  obtain ⟨s, hs⟩ : ∃ s, W.heap.size = s := ⟨_, rfl⟩
  have H1 : Hid (PBox s kind frm area seen (.slice va n cap) w1 ∧ PBox (s + 1) kind frm area seen (.slice vb n cap2) w1 ∧ Below W.heap.size W w1 ∧ w1.heap.size = s + 2) := by
    obtain ⟨w2, h2⟩ : ∃ w2, W.alloc (Obj.cells #[.int .i64 kind, .int .i64 frm, .int .i64 area, .int .i64 seen, .slice va n cap] 36) = w2 := ⟨_, rfl⟩
    rw [h2] at hw1
    obtain ⟨a1, a2, a3, a4⟩ := pbox_new h2
    obtain ⟨b1, b2, b3, b4⟩ := pbox_new hw1
    rw [a4] at b1 b4
    rw [hs] at a1 b1 b4
    exact ⟨a1.blk (b3.block _ (by omega)), b1, a3.trans (b3.mono (by omega)), by omega⟩
  have HB : Hid (∀ wr, Fr (blocks ys) w1 wr → PBox s kind frm area seen (.slice va n cap) wr ∧ PBox (s + 1) kind frm area seen (.slice vb n cap2) wr ∧ Fr (blocks ys) W wr ∧ s + 2 ≤ wr.heap.size) := fun wr hf => by
    obtain ⟨h1, h2, h3, h4⟩ := H1.out
    have hno : ∀ b, s ≤ b → ¬ b ∈ blocks ys := fun b hb e => by have := (HDO0.out.blt b e).2; omega
    have h5 := hf.size
    exact ⟨h1.blk (hf.block _ (by omega) (hno _ (by omega))), h2.blk (hf.block _ (by omega) (hno _ (by omega))), (Fr.bel (Fr.refl _ _) h3).trans hf, by omega⟩
  have HD1 : Hid (DO M w1 (.slice va n cap) ys) := HDO0.out.bel H1.out.2.2.1
  have hs1 : w1.heap.size = s + 2 := H1.out.2.2.2
  rw [hw1]
  simp only [hs]
  clear hw1
  obtain ⟨p0, p1, p2, p3, p4⟩ := H1.out.1
  go_wp2_with fail
  clear p0 p1 p2 p3 p4
  go_loopw [12] (fun iv wr => ∃ k : Nat, k ≤ n ∧ iv = .int .i64 (k : Int) ∧ DO M wr (.slice va n cap) ys ∧ Fr (blocks ys) w1 wr) (fun i _ => n - (intOf i).toNat)
  case atStart => exact ⟨0, by omega, rfl, HD1.out, Fr.refl _ _⟩
  case round =>
    obtain ⟨k, hk, rfl, hdo, hfr⟩ := hrel
    have HDO : Hid (DO M wr (.slice va n cap) ys) := hdo
    have HFR : Hid (Fr (blocks ys) w1 wr) := hfr
    have hsz : s + 2 ≤ wr.heap.size := (HB.out wr hfr).2.2.2
    clear hdo hfr
    by_cases hlt : k < n
    · have hkd : k < ys.length := by rw [HN.out]; exact hlt
      obtain ⟨g, hva, hgl, hMg, hc, hfz⟩ := HDO.out.at HN.out k hkd
      obtain ⟨nd1, nd2, nd3⟩ := blocks_split hkd HDO.out.nd
      have hbg := HBIG.out _ (List.getElem_mem hkd)
      have hit := HDO.out.its _ (List.getElem_mem hkd)
      have HTWO : Hid (∀ w', ItOk M w' ys[k] → Fr ys[k].bl wr w' → DO M w' (.slice va n cap) ys ∧ Fr (blocks ys) w1 w') := fun w' h1 h2 => ⟨HDO.out.two k hkd h1 h2, HFR.out.trans (h2.weak nd2)⟩
      obtain ⟨y, hy⟩ : ∃ y, ys[k] = y := ⟨_, rfl⟩
      rw [hy] at nd1 nd2 hbg hit HTWO hc
      subst hva
      have c7 : wr.cell? ⟨g, k * 11 + 7, none⟩ = some y.lv := hc 7 (by decide)
      have c8 : wr.cell? ⟨g, k * 11 + 8, none⟩ = some y.sv := hc 8 (by decide)
      have HIT : Hid (ItOk M wr y) := hit
      have HND : Hid (y.bl.Nodup) := nd1
      have HBG : Hid (y.x.links.length ≤ 1000 ∧ y.x.stubs.length ≤ 1000) := hbg
      obtain ⟨lv, hlv⟩ : ∃ v, y.lv = v := ⟨_, rfl⟩
      obtain ⟨sv, hsv⟩ : ∃ v, y.sv = v := ⟨_, rfl⟩
      have HTS : Hid (Two M wr.drew y lv sv [] [] wr.drew ∧ ItOk M wr.drew y) := by
        rw [← hlv, ← hsv]
        have h1 : ItOk M wr.drew y := hit.blk (fun b hb => (drew_bel wr).block b (hit.lt b hb).2)
        exact ⟨Two.start h1 nd1, h1⟩
      rw [hlv] at c7
      rw [hsv] at c8
      have HS : Hid (PBox s kind frm area seen (.slice (some ⟨g, 0, none⟩) n cap) wr.drew ∧ wr.drew.cell? ⟨g, k * 11 + 7, none⟩ = some lv ∧ wr.drew.cell? ⟨g, k * 11 + 8, none⟩ = some sv) := by
        have hb := drew_bel wr
        exact ⟨(HB.out wr HFR.out).1.blk (hb.block _ (by omega)), (World.cell?_of_block (w := wr) (hb.block _ hgl)).trans c7, (World.cell?_of_block (w := wr) (hb.block _ hgl)).trans c8⟩
      have hkk : (k : Int) < n := by omega
      have kk0 : (0 : Int) ≤ k := by omega
      have hmi : IntKind.i64.wrap (-1 - (k : Int)) = -1 - (k : Int) := by rw [IntWalk.i64_in _ (by omega)]
      obtain ⟨mi, hmi2⟩ : ∃ m : Int, -1 - (k : Int) = m := ⟨_, rfl⟩
      rw [hmi2] at hmi
      have hds : s + 2 ≤ wr.drew.heap.size := hsz
      have HFD : Hid (∀ w', Fr y.bl wr.drew w' → Fr y.bl wr w') := fun w' h => (Fr.bel (Fr.refl _ _) (drew_bel wr)).trans h
      clear hc hfz nd1 nd2 nd3 hbg hit hy c7 c8 hlv hsv
      go_upto_region 4 with fail
      refine wp_region_held_drew (S := fun W' => PBox s kind frm area seen (.slice (some ⟨g, 0, none⟩) n cap) W' ∧ W'.cell? ⟨g, k * 11 + 7, none⟩ = some lv ∧ W'.cell? ⟨g, k * 11 + 8, none⟩ = some sv) (by kernel_rfl) HS.out (fun hHeld => ?_)
      obtain ⟨wD, hwD⟩ : ∃ wD, wr.drew = wD := ⟨_, rfl⟩
      rw [hwD] at hHeld HTS hds HFD ⊢
      clear HS hwD
      refine wpAnyH_take (i := 0) (v := ?_) rfl (by kernel_rfl) (by kernel_rfl) (by kernel_rfl) (fun _ _ _ h => h) (Or.inl ⟨by rfl, ?_⟩) (by assumption) ?_
      case refine_2 => intro W hSw; obtain ⟨⟨p0, p1, p2, p3, p4⟩, j7, j8⟩ := hSw; go_simp; try rfl
      try simp only [Act.put, List.getElem_toArray, List.getElem_cons_zero, List.setIfInBounds_toArray, List.set_cons_zero, List.set_cons_succ]
      refine wpAnyH_take (i := 1) (v := ?_) rfl (by kernel_rfl) (by kernel_rfl) (by kernel_rfl) (fun _ _ _ h => h) (Or.inl ⟨by rfl, ?_⟩) (by assumption) ?_
      case refine_2 => intro W hSw; obtain ⟨⟨p0, p1, p2, p3, p4⟩, j7, j8⟩ := hSw; go_simp; try rfl
      try simp only [Act.put, List.getElem_toArray, List.getElem_cons_zero, List.getElem_cons_succ, List.setIfInBounds_toArray, List.set_cons_zero, List.set_cons_succ]
      refine wpAnyH_take (i := 2) (v := ?_) rfl (by kernel_rfl) (by kernel_rfl) (by kernel_rfl) (fun _ _ _ h => h) (Or.inl ⟨by rfl, ?_⟩) (by assumption) ?_
      case refine_2 => intro W hSw; obtain ⟨⟨p0, p1, p2, p3, p4⟩, j7, j8⟩ := hSw; go_simp; try rfl
      try simp only [Act.put, List.getElem_toArray, List.getElem_cons_zero, List.getElem_cons_succ, List.setIfInBounds_toArray, List.set_cons_zero, List.set_cons_succ]
      refine wpAnyH_take (i := 3) (v := ?_) rfl (by kernel_rfl) (by kernel_rfl) (by kernel_rfl) (fun _ _ _ h => h) (Or.inl ⟨by rfl, ?_⟩) (by assumption) ?_
      case refine_2 => intro W hSw; obtain ⟨⟨p0, p1, p2, p3, p4⟩, j7, j8⟩ := hSw; go_simp; try rfl
      try simp only [Act.put, List.getElem_toArray, List.getElem_cons_zero, List.getElem_cons_succ, List.setIfInBounds_toArray, List.set_cons_zero, List.set_cons_succ]
      refine wpAnyH_take (i := 4) (v := ?_) rfl (by kernel_rfl) (by kernel_rfl) (by kernel_rfl) (fun _ _ _ h => h) (Or.inl ⟨by rfl, ?_⟩) (by assumption) ?_
      case refine_2 => intro W hSw; obtain ⟨⟨p0, p1, p2, p3, p4⟩, j7, j8⟩ := hSw; go_simp; try rfl
      try simp only [Act.put, List.getElem_toArray, List.getElem_cons_zero, List.getElem_cons_succ, List.setIfInBounds_toArray, List.set_cons_zero, List.set_cons_succ]
      refine wpAnyH_take (i := 5) (v := ?_) rfl (by kernel_rfl) (by kernel_rfl) (by kernel_rfl) (fun _ _ _ h => h) (Or.inl ⟨by rfl, ?_⟩) (by assumption) ?_
      case refine_2 => intro W hSw; obtain ⟨⟨p0, p1, p2, p3, p4⟩, j7, j8⟩ := hSw; go_simp; try rfl
      try simp only [Act.put, List.getElem_toArray, List.getElem_cons_zero, List.getElem_cons_succ, List.setIfInBounds_toArray, List.set_cons_zero, List.set_cons_succ]
      refine wpAnyH_take (i := 6) (v := ?_) rfl (by kernel_rfl) (by kernel_rfl) (by kernel_rfl) (fun _ _ _ h => h) (Or.inl ⟨by rfl, ?_⟩) (by assumption) ?_
      case refine_2 => intro W hSw; obtain ⟨⟨p0, p1, p2, p3, p4⟩, j7, j8⟩ := hSw; go_simp; try rfl
      try simp only [Act.put, List.getElem_toArray, List.getElem_cons_zero, List.getElem_cons_succ, List.setIfInBounds_toArray, List.set_cons_zero, List.set_cons_succ]
      refine wpAnyH_take (i := 7) (v := ?_) rfl (by kernel_rfl) (by kernel_rfl) (by kernel_rfl) (fun _ _ _ h => h) (Or.inl ⟨by rfl, ?_⟩) (by assumption) ?_
      case refine_2 => intro W hSw; obtain ⟨⟨p0, p1, p2, p3, p4⟩, j7, j8⟩ := hSw; go_simp; try rfl
      try simp only [Act.put, List.getElem_toArray, List.getElem_cons_zero, List.getElem_cons_succ, List.setIfInBounds_toArray, List.set_cons_zero, List.set_cons_succ]
      refine wpAnyH_take (i := 8) (v := ?_) rfl (by kernel_rfl) (by kernel_rfl) (by kernel_rfl) (fun _ _ _ h => h) (Or.inl ⟨by rfl, ?_⟩) (by assumption) ?_
      case refine_2 => intro W hSw; obtain ⟨⟨p0, p1, p2, p3, p4⟩, j7, j8⟩ := hSw; go_simp; try rfl
      try simp only [Act.put, List.getElem_toArray, List.getElem_cons_zero, List.getElem_cons_succ, List.setIfInBounds_toArray, List.set_cons_zero, List.set_cons_succ]
      refine wpAnyH_take (i := 9) (v := ?_) rfl (by kernel_rfl) (by kernel_rfl) (by kernel_rfl) (fun _ _ _ h => h) (Or.inl ⟨by rfl, ?_⟩) (by assumption) ?_
      case refine_2 => intro W hSw; obtain ⟨⟨p0, p1, p2, p3, p4⟩, j7, j8⟩ := hSw; go_simp; try rfl
      try simp only [Act.put, List.getElem_toArray, List.getElem_cons_zero, List.getElem_cons_succ, List.setIfInBounds_toArray, List.set_cons_zero, List.set_cons_succ]
      refine wpAnyH_take (i := 10) (v := ?_) rfl (by kernel_rfl) (by kernel_rfl) (by kernel_rfl) (fun _ _ _ h => h) (Or.inl ⟨by rfl, ?_⟩) (by assumption) ?_
      case refine_2 => intro W hSw; obtain ⟨⟨p0, p1, p2, p3, p4⟩, j7, j8⟩ := hSw; go_simp; try rfl
      try simp only [Act.put, List.getElem_toArray, List.getElem_cons_zero, List.getElem_cons_succ, List.setIfInBounds_toArray, List.set_cons_zero, List.set_cons_succ]
      refine wpAnyH_take (i := 11) (v := ?_) rfl (by kernel_rfl) (by kernel_rfl) (by kernel_rfl) (fun _ _ _ h => h) (Or.inl ⟨by rfl, ?_⟩) (by assumption) ?_
      case refine_2 => intro W hSw; obtain ⟨⟨p0, p1, p2, p3, p4⟩, j7, j8⟩ := hSw; go_simp; try rfl
      try simp only [Act.put, List.getElem_toArray, List.getElem_cons_zero, List.getElem_cons_succ, List.setIfInBounds_toArray, List.set_cons_zero, List.set_cons_succ]
      refine wpAnyH_take (i := 12) (v := ?_) rfl (by kernel_rfl) (by kernel_rfl) (by kernel_rfl) (fun _ _ _ h => h) (Or.inl ⟨by rfl, ?_⟩) (by assumption) ?_
      case refine_2 => intro W hSw; obtain ⟨⟨p0, p1, p2, p3, p4⟩, j7, j8⟩ := hSw; go_simp; try rfl
      try simp only [Act.put, List.getElem_toArray, List.getElem_cons_zero, List.getElem_cons_succ, List.setIfInBounds_toArray, List.set_cons_zero, List.set_cons_succ]
      refine wpAnyH_take (i := 13) (v := ?_) rfl (by kernel_rfl) (by kernel_rfl) (by kernel_rfl) (fun _ _ _ h => h) (Or.inl ⟨by rfl, ?_⟩) (by assumption) ?_
      case refine_2 => intro W hSw; obtain ⟨⟨p0, p1, p2, p3, p4⟩, j7, j8⟩ := hSw; go_simp; try rfl
      try simp only [Act.put, List.getElem_toArray, List.getElem_cons_zero, List.getElem_cons_succ, List.setIfInBounds_toArray, List.set_cons_zero, List.set_cons_succ]
      refine wpAnyH_done (by kernel_rfl) ?_ _
      clear hHeld
      have hMD : M ≤ wD.heap.size := by omega
      obtain ⟨i0, hi, hz0, hz1, hz2⟩ := info_parts infoLk
      obtain ⟨i2, hi2, hy0, hy1, hy2⟩ := info_parts infoSt
      go_wp2_with fail
      go_loopw [6, 7, 8] (fun kv sv jv wr2 => ∃ (j : Nat) (zk zs : List (Int × Int × Int)), j ≤ 70 ∧ jv = .int .i64 (j : Int) ∧ zk.length = j ∧ zs.length = j ∧ Two M wD y kv sv zk zs wr2) (fun _ _ i _ => 70 - (intOf i).toNat)
      case atStart => exact ⟨0, [], [], by omega, rfl, rfl, rfl, HTS.out.1⟩
      case round =>
        obtain ⟨j, zk, zs, hj, rfl, hzk, hzs, htwo⟩ := hrel
        have HT : Hid (Two M wD y u6 u7 zk zs wr) := htwo
        have HZK : Hid (zk.length = j) := hzk
        have HZS : Hid (zs.length = j) := hzs
        clear htwo hzk hzs
        by_cases hjl : j < 70
        · have hjj : (j : Int) < 70 := by omega
          have hb1 : (y.x.links ++ zk).length ≤ 1048576 := by rw [List.length_append, HZK.out]; have := HBG.out.1; omega
          have hb2 : (y.x.stubs ++ zs).length ≤ 1048576 := by rw [List.length_append, HZS.out]; have := HBG.out.2; omega
          obtain ⟨wA, hwA⟩ : ∃ wA, wr.alloc (Obj.cells #[.int .i64 mi, .int .i64 0, .int .i64 0] 54) = wA := ⟨_, rfl⟩
          have HTA : Hid (Two M wD y u6 u7 zk zs wA) := HT.out.next (by rw [← hwA]; exact (Below.refl _ wr).alloc (Nat.le_refl _) _)
          have HWA : Hid (wr.alloc (Obj.cells #[.int .i64 mi, .int .i64 0, .int .i64 0] 54) = wA) := hwA
          have hMA : M ≤ wA.heap.size := Nat.le_trans hMD HTA.out.fr.size
          go_wp2_with (at_builtin; refine list_app1K rfl _ _ 25 54 rfl .i64 i0 _ Try.underlying25 hi hz0 hz1 (by omega) rfl M u6 (y.x.links ++ zk) (mi, 0, 0) hb1 (w := wr) wA rfl HTA.out.ok rfl hMA HWA.out.symm ?_)
          intro v' w' ho hg hat hkeep
          have HT2 : Hid (Two M wD y v' u7 (zk ++ [(mi, 0, 0)]) zs w') := HTA.out.stepK HTS.out.2 HND.out (by rw [List.append_assoc]; exact ho.out) hg.out hat.out hkeep.out
          clear ho hg hat hkeep HTA HWA hwA hMA HT
          obtain ⟨wB, hwB⟩ : ∃ wB, w'.alloc (Obj.cells #[.int .u32 0, .int .i64 0, .int .i64 mi] 56) = wB := ⟨_, rfl⟩
          have HTB : Hid (Two M wD y v' u7 (zk ++ [(mi, 0, 0)]) zs wB) := HT2.out.next (by rw [← hwB]; exact (Below.refl _ w').alloc (Nat.le_refl _) _)
          have HWB : Hid (w'.alloc (Obj.cells #[.int .u32 0, .int .i64 0, .int .i64 mi] 56) = wB) := hwB
          have hMB : M ≤ wB.heap.size := Nat.le_trans hMD HTB.out.fr.size
          go_wp2_with (at_builtin; refine list_app1K rfl _ _ 26 56 rfl .u32 i2 _ Try.underlying26 hi2 hy0 hy1 (by omega) rfl M u7 (y.x.stubs ++ zs) (0, 0, mi) hb2 (w := w') wB rfl HTB.out.os rfl hMB HWB.out.symm ?_)
          intro v2 w2 ho hg hat hkeep
          have HT3 : Hid (Two M wD y v' v2 (zk ++ [(mi, 0, 0)]) (zs ++ [(0, 0, mi)]) w2) := HTB.out.stepS HTS.out.2 HND.out (by rw [List.append_assoc]; exact ho.out) hg.out hat.out hkeep.out
          clear ho hg hat hkeep HTB HWB hwB hMB HT2
          go_wp2_with fail
          exact ⟨⟨j + 1, zk ++ [(mi, 0, 0)], zs ++ [(0, 0, mi)], by omega, by simp, by rw [List.length_append, HZK.out]; rfl, by rw [List.length_append, HZS.out]; rfl, HT3.out⟩, by simp [intOf]; omega⟩
        · obtain rfl : j = 70 := by omega
          have hfin := HTWO.out wr HT.out.it (HFD.out wr HT.out.fr)
          have HFI : Hid (DO M wr (.slice (some ⟨g, 0, none⟩) n cap) ys ∧ Fr (blocks ys) w1 wr) := hfin
          clear hfin
          go_wp2_with fail
          exact ⟨⟨k + 1, by omega, by simp, HFI.out.1, HFI.out.2⟩, by simp [intOf]; omega⟩
    · obtain rfl : n = k := by omega
      obtain ⟨⟨p0, p1, p2, p3, p4⟩, ⟨q0, q1, q2, q3, q4⟩, hfw, -⟩ := HB.out wr HFR.out
      have HFW : Hid (Fr (blocks ys) W wr) := hfw
      have HPS := psame_any kind frm area seen va cap vb cap2 (ys.map It.x) n (by rw [List.length_map, HN.out]) wr (HDO.out.all HN.out) (HW.out wr hfw)
      unfold pkV at HPS
      clear hfw
      go_wp2_with fail
      refine HPS.mono ?_
      rintro e w5 ⟨rfl, hb5⟩
      have HF5 : Hid (DO M w5 (.slice va n cap) ys ∧ Fr (blocks ys) W w5) := ⟨HDO.out.bel hb5, HFW.out.bel hb5⟩
      clear hb5 HPS
      go_wp2_with fail
      go_ret
      exact ⟨rfl, HF5.out.1, HF5.out.2⟩
end Go.Proofs.Ytagfdmkgnedlbae.Ls
