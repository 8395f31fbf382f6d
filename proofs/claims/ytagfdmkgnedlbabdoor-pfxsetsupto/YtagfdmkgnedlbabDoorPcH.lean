/- spansOf and Cover: what each answers. -/
import Derived.Test.YtagfdmkgnedlbabDoorPcG
namespace Go.Proofs.YtagfdmkgnedlbabDoor.Pc
open Go.ChangeShapes Go.WideShapes Go.ChangeAt Go.RowKit Go.Joins Go.Shelf Go.Proofs.YtagfdmkgnedlbabDoor.PM Go.Proofs.YtagfdmkgnedlbabDoor.Ask Go.Proofs.YtagfdmkgnedlbabDoor.Ge
set_option linter.unusedVariables false

theorem drewN_bel (w : World) (k : Nat) : Below w.heap.size w (w.drewN k) := ⟨rfl, rfl, rfl, Nat.le_refl _, fun _ _ => rfl⟩
theorem spans_snoc (S : List (Int × Int)) (i : Nat) (h : i < S.length) : spans (S.take (i + 1)) = stepS (spans (S.take i)) (S[i].1, S[i].1 + psz S[i].2) := by
  unfold spans
  rw [take_snoc S i h, List.foldl_append]
  rfl
set_option maxRecDepth 100000 in
set_option maxHeartbeats 16000000 in
theorem spans_any (vl : Option Addr) (cl : Nat) (ls : List (Option Addr × Nat × Nat)) (pss : List (List (Int × Int))) (L : Nat) (hL : ls.length = L) (htot : pss.flatten.length ≤ 274877906944) (hin : ∀ ps ∈ pss, ∀ p ∈ ps, InA p) (w : World) (h : LL w vl ls pss) :
    Calls Tryd.prog 18 #[.slice vl L cl] w fun e w' => ∃ a n c S, e = .returned (.slice a n c) ∧ OwnL ES w.heap.size w' (.slice a n c) (spans S) ∧ (∀ p, p ∈ S ↔ p ∈ pss.flatten ∧ vld p.1 p.2 = true) ∧ S.Pairwise (fun p q => p.1 ≤ q.1) ∧ Below w.heap.size w w' := by
  go_enter Tryd.func18, Tryd.ntmps18
  go_wp2_with fail
  refine (sorted_any vl cl ls pss L hL htot hin w h).mono ?_
  rintro e w1 ⟨a1, n1, c1, S, rfl, hSn, hSl, hSm, hSp, hSb, hS4⟩
  have HSN : Hid (S.length = n1) := hSn
  have HSL : Hid (Lst E2 w1 a1 S) := hSl
  have HSM : Hid (∀ p, p ∈ S ↔ p ∈ pss.flatten ∧ vld p.1 p.2 = true) := hSm
  have HSP : Hid (S.Pairwise (fun p q => p.1 ≤ q.1)) := hSp
  have HSB : Hid (Below w.heap.size w w1) := hSb
  have HSV : Hid (∀ p ∈ S, vld p.1 p.2 = true ∧ InA p) := fun p hp => by
    obtain ⟨h1, h2⟩ := (hSm p).1 hp
    obtain ⟨l, hl, h3⟩ := List.mem_flatten.1 h1
    exact ⟨h2, hin l hl p h3⟩
  obtain ⟨N, hN⟩ : ∃ N, w1.heap.size = N := ⟨_, rfl⟩
  have hNw : w.heap.size ≤ N := by rw [← hN]; exact hSb.size
  have h63 : n1 ≤ 9223372036854775807 := by rw [← hSn]; exact hSl.small
  clear hSn hSl hSm hSp hSb h hin htot hL
  go_wp2_with fail
  go_loopw [3, 11] (fun ov iv wr => ∃ (i : Nat) (ss : List (Int × Int)), i ≤ n1 ∧ iv = .int .i64 (i : Int) ∧ ss = spans (S.take i) ∧ ss.length ≤ i ∧ OwnL ES N wr ov ss ∧ Below N w1 wr) (fun _ i _ => n1 - (intOf i).toNat)
  case atStart => exact ⟨0, [], by omega, rfl, rfl, by simp, OwnL.nil _ _ _, by rw [← hN]; exact Below.refl _ _⟩
  case round =>
    obtain ⟨i, ss, hi, rfl, hss, hsl, how, hbl⟩ := hrel
    have HSS : Hid (ss = spans (S.take i)) := hss
    obtain ⟨m3, hm3⟩ : ∃ m, ss.length = m := ⟨_, rfl⟩
    obtain ⟨a3, c3, hv3, -⟩ := how.form
    rw [hm3] at hv3
    subst hv3
    have HM3 : Hid (ss.length = m3) := hm3
    have hm3i : m3 ≤ i := by rw [← hm3]; exact hsl
    have HO : Hid (OwnL ES N wr (.slice a3 m3 c3) ss) := how
    have HB : Hid (Below N w1 wr) := hbl
    clear hss how hbl hm3
    by_cases hlt : i < n1
    · have hil : i < S.length := by rw [HSN.out]; exact hlt
      obtain ⟨b, o, rfl, hbl, hc⟩ := (HSL.out.bel (by rw [hN]; exact HB.out)).cells i hil
      have c0 : wr.cell? ⟨b, o + i * 2, none⟩ = some (.int .u32 S[i].1) := hc 0 (by decide)
      have c1 : wr.cell? ⟨b, o + i * 2 + 1, none⟩ = some (.int .i64 S[i].2) := hc 1 (by decide)
      obtain ⟨hv, p0, p1⟩ := HSV.out _ (List.getElem_mem hil)
      have HST : Hid (spans (S.take (i + 1)) = stepS ss (S[i].1, S[i].1 + psz S[i].2)) := by show _ = _; rw [spans_snoc S i hil, HSS.out]
      obtain ⟨⟨pa, pn⟩, hpp⟩ : ∃ p, S[i] = p := ⟨_, rfl⟩
      rw [hpp] at c0 c1 hv p0 p1 HST
      dsimp only at c0 c1 hv p0 p1
      obtain ⟨hv1, hv2, -⟩ := (vld_iff _ _).1 hv
      have hpe := vld_end pa pn hv p1
      have hpp1 := psz_pos pn
      obtain ⟨sz, hsz⟩ : ∃ s, psz pn = s := ⟨_, rfl⟩
      have hshw : IntKind.u64.wrap (2 ^ (32 - pn).toNat) = sz := by rw [wrap_psz pn hv1 hv2, hsz]
      rw [hsz] at hpe hpp1
      obtain ⟨e, he⟩ : ∃ e, pa + sz = e := ⟨_, rfl⟩
      have HST2 : Hid (spans (S.take (i + 1)) = stepS ss (pa, e)) := by rw [← he, ← hsz]; exact HST.out
      have hc1 : IntKind.u64.wrap pa = pa := u64_id (by omega) (by omega)
      have hc2 : IntKind.u64.wrap (pa + sz) = e := by rw [u64_id (by omega) (by omega)]; exact he
      have hc3 : IntKind.i64.wrap (32 - pn) = 32 - pn := by rw [IntWalk.i64_in _ (by omega)]
      have hsg : (0 : Int) ≤ 32 - pn := by omega
      have hsg2 : (32 - pn : Int) < 64 := by omega
      have hii : (i : Int) < n1 := by omega
      have ii0 : (0 : Int) ≤ i := by omega
      obtain ⟨wA, hwA⟩ : ∃ wA, wr.alloc (Obj.cells #[.int .u32 pa, .int .i64 pn] 28) = wA := ⟨_, rfl⟩
      have hbA : Below wr.heap.size wr wA := by rw [← hwA]; exact (Below.refl _ wr).alloc (Nat.le_refl _) _
      obtain ⟨sb, hsb⟩ : ∃ s, wr.heap.size = s := ⟨_, rfl⟩
      have HGA : Hid (wA.heap[sb]? = some (Obj.cells #[.int .u32 pa, .int .i64 pn] 28)) := by rw [← hwA, ← hsb]; exact World.alloc_heap_new wr _
      have hsA : wA.heap.size = sb + 1 := by rw [← hwA, ← hsb]; simp
      have HOA : Hid (OwnL ES N wA (.slice a3 m3 c3) ss) := HO.out.bel hbA
      have HBA : Hid (Below N w1 wA) := HB.out.trans (hbA.mono (by have := HB.out.size; omega))
      have HUL : Hid (∀ g, (Value.slice a3 m3 c3).ownBlock = some g → g < sb) := fun g e => by rw [← hsb]; exact (HO.out.row.lt g e).2
      clear hc hbA hpp hsz HST he HO HB
      go_upto_region 5 with fail
      clear hwA
      refine wp_region_held_drew (S := fun W => W.cell? ⟨sb, 0, none⟩ = some (.int .u32 pa) ∧ W.cell? ⟨sb, 1, none⟩ = some (.int .i64 pn)) (by kernel_rfl) ((cell_two ((drew_bel wA).block sb (by omega) |>.trans HGA.out))) (fun hHeld => ?_)
      obtain ⟨wD, hwD⟩ : ∃ wD, wA.drew = wD := ⟨_, rfl⟩
      rw [hwD] at hHeld ⊢
      have HOD : Hid (OwnL ES N wD (.slice a3 m3 c3) ss) := by rw [← hwD]; exact HOA.out.bel (drew_bel wA)
      have HBD : Hid (Below N w1 wD) := by rw [← hwD]; exact HBA.out.trans ((drew_bel wA).mono (by have := HBA.out.size; omega))
      have hsD : wD.heap.size = sb + 1 := by rw [← hwD]; exact hsA
      clear hwD HOA HBA
      refine wpAnyH_take (i := 0) (v := ?_) rfl (by kernel_rfl) (by kernel_rfl) (by kernel_rfl) (fun _ _ _ h => h) (Or.inl ⟨by rfl, ?_⟩) (by assumption) ?_
      case refine_2 => intro W hSw; obtain ⟨j0, j1⟩ := hSw; go_simp; try rfl
      try simp only [Act.put, List.getElem_toArray, List.getElem_cons_zero, List.setIfInBounds_toArray, List.set_cons_zero, List.set_cons_succ]
      refine wpAnyH_take (i := 1) (v := ?_) rfl (by kernel_rfl) (by kernel_rfl) (by kernel_rfl) (fun _ _ _ h => h) (Or.inl ⟨by rfl, ?_⟩) (by assumption) ?_
      case refine_2 => intro W hSw; obtain ⟨j0, j1⟩ := hSw; go_simp; try rfl
      try simp only [Act.put, List.getElem_toArray, List.getElem_cons_zero, List.getElem_cons_succ, List.setIfInBounds_toArray, List.set_cons_zero, List.set_cons_succ]
      refine wpAnyH_take (i := 2) (v := ?_) rfl (by kernel_rfl) (by kernel_rfl) (by kernel_rfl) (fun _ _ _ h => h) (Or.inl ⟨by rfl, ?_⟩) (by assumption) ?_
      case refine_2 => intro W hSw; obtain ⟨j0, j1⟩ := hSw; go_simp; try rfl
      try simp only [Act.put, List.getElem_toArray, List.getElem_cons_zero, List.getElem_cons_succ, List.setIfInBounds_toArray, List.set_cons_zero, List.set_cons_succ]
      refine wpAnyH_take (i := 3) (v := ?_) rfl (by kernel_rfl) (by kernel_rfl) (by kernel_rfl) (fun _ _ _ h => h) (Or.inl ⟨by rfl, ?_⟩) (by assumption) ?_
      case refine_2 => intro W hSw; obtain ⟨j0, j1⟩ := hSw; go_simp; try rfl
      try simp only [Act.put, List.getElem_toArray, List.getElem_cons_zero, List.getElem_cons_succ, List.setIfInBounds_toArray, List.set_cons_zero, List.set_cons_succ]
      refine wpAnyH_take (i := 4) (v := ?_) rfl (by kernel_rfl) (by kernel_rfl) (by kernel_rfl) (fun _ _ _ h => h) (Or.inl ⟨by rfl, ?_⟩) (by assumption) ?_
      case refine_2 => intro W hSw; obtain ⟨j0, j1⟩ := hSw; go_simp; try rfl
      try simp only [Act.put, List.getElem_toArray, List.getElem_cons_zero, List.getElem_cons_succ, List.setIfInBounds_toArray, List.set_cons_zero, List.set_cons_succ]
      refine wpAnyH_take (i := 5) (v := ?_) rfl (by kernel_rfl) (by kernel_rfl) (by kernel_rfl) (fun _ _ _ h => h) (Or.inl ⟨by rfl, ?_⟩) (by assumption) ?_
      case refine_2 => intro W hSw; obtain ⟨j0, j1⟩ := hSw; go_simp; try rfl
      try simp only [Act.put, List.getElem_toArray, List.getElem_cons_zero, List.getElem_cons_succ, List.setIfInBounds_toArray, List.set_cons_zero, List.set_cons_succ]
      refine wpAnyH_take (i := 6) (v := ?_) rfl (by kernel_rfl) (by kernel_rfl) (by kernel_rfl) (fun _ _ _ h => h) (Or.inl ⟨by rfl, ?_⟩) (by assumption) ?_
      case refine_2 => intro W hSw; obtain ⟨j0, j1⟩ := hSw; go_simp; try rfl
      try simp only [Act.put, List.getElem_toArray, List.getElem_cons_zero, List.getElem_cons_succ, List.setIfInBounds_toArray, List.set_cons_zero, List.set_cons_succ]
      refine wpAnyH_take (i := 7) (v := ?_) rfl (by kernel_rfl) (by kernel_rfl) (by kernel_rfl) (fun _ _ _ h => h) (Or.inl ⟨by rfl, ?_⟩) (by assumption) ?_
      case refine_2 => intro W hSw; obtain ⟨j0, j1⟩ := hSw; go_simp; try rfl
      try simp only [Act.put, List.getElem_toArray, List.getElem_cons_zero, List.getElem_cons_succ, List.setIfInBounds_toArray, List.set_cons_zero, List.set_cons_succ]
      refine wpAnyH_take (i := 8) (v := ?_) rfl (by kernel_rfl) (by kernel_rfl) (by kernel_rfl) (fun _ _ _ h => h) (Or.inl ⟨by rfl, ?_⟩) (by assumption) ?_
      case refine_2 => intro W hSw; obtain ⟨j0, j1⟩ := hSw; go_simp; try rfl
      try simp only [Act.put, List.getElem_toArray, List.getElem_cons_zero, List.getElem_cons_succ, List.setIfInBounds_toArray, List.set_cons_zero, List.set_cons_succ]
      refine wpAnyH_take (i := 9) (v := ?_) rfl (by kernel_rfl) (by kernel_rfl) (by kernel_rfl) (fun _ _ _ h => h) (Or.inl ⟨by rfl, ?_⟩) (by assumption) ?_
      case refine_2 => intro W hSw; obtain ⟨j0, j1⟩ := hSw; go_simp; try rfl
      try simp only [Act.put, List.getElem_toArray, List.getElem_cons_zero, List.getElem_cons_succ, List.setIfInBounds_toArray, List.set_cons_zero, List.set_cons_succ]
      refine wpAnyH_take (i := 10) (v := ?_) rfl (by kernel_rfl) (by kernel_rfl) (by kernel_rfl) (fun _ _ _ h => h) (Or.inl ⟨by rfl, ?_⟩) (by assumption) ?_
      case refine_2 => intro W hSw; obtain ⟨j0, j1⟩ := hSw; go_simp; try rfl
      try simp only [Act.put, List.getElem_toArray, List.getElem_cons_zero, List.getElem_cons_succ, List.setIfInBounds_toArray, List.set_cons_zero, List.set_cons_succ]
      refine wpAnyH_take (i := 11) (v := ?_) rfl (by kernel_rfl) (by kernel_rfl) (by kernel_rfl) (fun _ _ _ h => h) (Or.inl ⟨by rfl, ?_⟩) (by assumption) ?_
      case refine_2 => intro W hSw; obtain ⟨j0, j1⟩ := hSw; go_simp; try rfl
      try simp only [Act.put, List.getElem_toArray, List.getElem_cons_zero, List.getElem_cons_succ, List.setIfInBounds_toArray, List.set_cons_zero, List.set_cons_succ]
      have HH : Hid (∀ o, (wD.alloc o).cell? ⟨sb, 0, none⟩ = some (.int .u32 pa) ∧ (wD.alloc o).cell? ⟨sb, 1, none⟩ = some (.int .i64 pn)) := fun o => ⟨(World.cell?_of_block (w := wD) (((Below.refl wD.heap.size wD).alloc (Nat.le_refl _) o).block sb (by omega))).trans hHeld.1, (World.cell?_of_block (w := wD) (((Below.refl wD.heap.size wD).alloc (Nat.le_refl _) o).block sb (by omega))).trans hHeld.2⟩
      refine wpAnyH_ready (rs := [12]) (by kernel_rfl) (by simp) ?_
      refine AllReadyH.cons rfl (fun K hK => ?_) AllReadyH.nil
      go_simp
      refine hK.out _ _ (HH.out _) (fun hHeld => ?_)
      clear hK K
      try simp only [Act.put, List.getElem_toArray, List.getElem_cons_zero, List.getElem_cons_succ, List.setIfInBounds_toArray, List.set_cons_zero, List.set_cons_succ]
      refine wpAnyH_ready (rs := [13]) (by kernel_rfl) (by simp) ?_
      refine AllReadyH.cons rfl (fun K hK => ?_) AllReadyH.nil
      go_simp
      refine hK.out _ _ (HH.out _) (fun hHeld => ?_)
      clear hK K
      try simp only [Act.put, List.getElem_toArray, List.getElem_cons_zero, List.getElem_cons_succ, List.setIfInBounds_toArray, List.set_cons_zero, List.set_cons_succ]
      refine wpAnyH_done (by kernel_rfl) ?_ _
      clear hHeld HH
      obtain ⟨wE, hwE⟩ : ∃ wE, wD.alloc (Obj.cells #[.int .u64 pa, .int .u64 e] 50) = wE := ⟨_, rfl⟩
      rw [hwE]
      obtain ⟨sn, hsn⟩ : ∃ s, sb + 1 = s := ⟨_, rfl⟩
      have hbE : Below wD.heap.size wD wE := by rw [← hwE]; exact (Below.refl _ wD).alloc (Nat.le_refl _) _
      have HGE : Hid (wE.heap[sn]? = some (Obj.cells #[.int .u64 pa, .int .u64 e] 50)) := by
        rw [← hwE, ← hsn, ← hsD]; exact World.alloc_heap_new wD _
      have hsE : wE.heap.size = sn + 1 := by rw [← hwE]; simp; omega
      have HOE : Hid (OwnL ES N wE (.slice a3 m3 c3) ss) := HOD.out.bel hbE
      have HBE : Hid (Below N w1 wE) := HBD.out.trans (hbE.mono (by have := HBD.out.size; omega))
      rw [hsn]
      clear hwE hbE HOD HBD hshw hc1 hc2 hc3 hsg hsg2 HGA
      obtain ⟨d0, d1⟩ := cell_two HGE.out
      rcases List.eq_nil_or_concat ss with hnil | ⟨r, s0, hcc⟩
      · have hm0 : m3 = 0 := by rw [← HM3.out, hnil]; rfl
        have hwl : IntKind.i64.wrap ((m3 : Int) - 1) = -1 := by rw [hm0]; rfl
        have HNXT : Hid (spans (S.take (i + 1)) = ss ++ [(pa, e)]) := by
          show _ = _
          rw [HST2.out, hnil]
          rfl
        clear hnil hm0
        go_wp2_with fail
        go_quiet (fail)
        clear hwl
        obtain ⟨wF, hwF⟩ : ∃ wF, wE.drewN nq = wF := ⟨_, rfl⟩
        rw [hwF]
        have HOF : Hid (OwnL ES N wF (.slice a3 m3 c3) ss) := by rw [← hwF]; exact HOE.out.bel (drewN_bel wE nq)
        have HBF : Hid (Below N w1 wF) := by rw [← hwF]; exact HBE.out.trans ((drewN_bel wE nq).mono (by have := HBE.out.size; omega))
        have HGF : Hid (wF.heap[sn]? = some (Obj.cells #[.int .u64 pa, .int .u64 e] 50)) := by rw [← hwF]; exact HGE.out
        clear hwF HOE HBE HGE d0 d1
        obtain ⟨d0, d1⟩ := cell_two HGF.out
        have HNX : Hid (spans (S.take (i + 1)) = ss ++ [(pa, e)]) := HNXT.out
        obtain ⟨wC, hwC⟩ : ∃ wC, wF.alloc (Obj.cells #[.int .u64 pa, .int .u64 e] 50) = wC := ⟨_, rfl⟩
        have HWC : Hid (wF.alloc (Obj.cells (ES.enc (pa, e)).toArray ES.e) = wC) := hwC
        have hbC : Below wF.heap.size wF wC := by rw [← hwC]; exact (Below.refl _ wF).alloc (Nat.le_refl _) _
        have HBC : Hid (Below N w1 wC) := HBF.out.trans (hbC.mono (by have := HBF.out.size; omega))
        have HOC : Hid (OwnL ES N wC (.slice a3 m3 c3) ss) := HOF.out.bel hbC
        have hmC : N ≤ wC.heap.size := by have := HBC.out.size; omega
        have hbig : ss.length ≤ 1099511627775 := by omega
        clear hbC
        go_wp2_with (at_builtin; refine list_app1 ES rfl _ _ 39 rfl rfl N (.slice a3 m3 c3) ss (pa, e) hbig (w := wF) wC rfl HOC.out rfl hmC HWC.out.symm ?_)
        intro v' w' ho hg hat
        have HO3 : Hid (OwnL ES N w' v' (spans (S.take (i + 1)))) := by rw [HNX.out]; exact ho.out
        have HB3 : Hid (Below N w1 w') := HBC.out.trans ((Below.refl _ wC).grown hg.out hmC (fun g e => (HOC.out.row.lt g e).1))
        clear ho hg hat hwC HWC
        go_wp2_with fail
        exact ⟨⟨i + 1, spans (S.take (i + 1)), by omega, by simp, rfl, by rw [HNX.out, List.length_append]; simp; omega, HO3.out, HB3.out⟩, by simp [intOf]; omega⟩
      · rw [List.concat_eq_append] at hcc
        have hq : r.length + 1 = m3 := by rw [← HM3.out, hcc, List.length_append]; rfl
        obtain ⟨q, hqq⟩ : ∃ q, r.length = q := ⟨_, rfl⟩
        have hwl : IntKind.i64.wrap ((m3 : Int) - 1) = (q : Int) := by rw [IntWalk.i64_in _ (by omega)]; omega
        have hgf : ∃ g, a3 = some ⟨g, 0, none⟩ := by
          rcases HOE.out.row.2 with ⟨h1, h2⟩ | ⟨g', c', cur, h1, -⟩
          · rw [HM3.out] at h2; omega
          · cases h1; exact ⟨g', rfl⟩
        obtain ⟨g, rfl⟩ := hgf
        obtain ⟨hat, hfz, hgl, hgN⟩ := HOE.out.at0
        have hql : q < ss.length := by rw [HM3.out]; omega
        have hsq : ss[q] = s0 := by
          subst hqq
          simp [hcc]
        have e0 : wE.cell? ⟨g, q * 2 + 1, none⟩ = some (.int .u64 s0.2) := by
          have h1 := hat q hql 1 (by decide)
          rw [hsq] at h1
          exact h1
        have HSQ : Hid (ss[q] = s0) := hsq
        have hgn : g < sb := HUL.out g rfl
        have hq0 : (0 : Int) ≤ q := by omega
        have hq1 : (q : Int) < m3 := by omega
        have HFZ : Hid (∀ i, wE.frozen? ⟨g, i, none⟩ = false) := hfz
        obtain ⟨sf, se⟩ := s0
        dsimp only at e0
        have hdq : decide ((0 : Int) ≤ q) = true := by simp
        by_cases hle : pa ≤ se
        · have hdl : decide (pa ≤ se) = true := by simpa using hle
          have HNXT : Hid (spans (S.take (i + 1)) = ss.set q (sf, max se e)) := by
            show _ = _
            rw [HST2.out, hcc, step_last, if_pos hle, List.set_append, if_neg (by omega), ← hqq]
            simp
          clear hat hfz hsq hcc hqq
          go_wp2_with fail
          go_quiet (fail)
          obtain ⟨wF, hwF⟩ : ∃ wF, wE.drewN nq = wF := ⟨_, rfl⟩
          rw [hwF]
          have HOF : Hid (OwnL ES N wF (.slice (some ⟨g, 0, none⟩) m3 c3) ss) := by rw [← hwF]; exact HOE.out.bel (drewN_bel wE nq)
          have HBF : Hid (Below N w1 wF) := by rw [← hwF]; exact HBE.out.trans ((drewN_bel wE nq).mono (by have := HBE.out.size; omega))
          have HGF : Hid (wF.heap[sn]? = some (Obj.cells #[.int .u64 pa, .int .u64 e] 50)) := by rw [← hwF]; exact HGE.out
          have HEF : Hid (wF.cell? ⟨g, q * 2 + 1, none⟩ = some (.int .u64 se)) := by rw [← hwF]; exact e0
          have HZF : Hid (∀ i, wF.frozen? ⟨g, i, none⟩ = false) := by rw [← hwF]; exact HFZ.out
          have hsF : wF.heap.size = sn + 1 := by rw [← hwF]; exact hsE
          clear hwF HOE HBE HGE d0 d1 e0 HFZ hwl
          go_upto_region 8 with fail
          refine wp_region_held_drew (S := fun W => W.cell? ⟨sn, 1, none⟩ = some (.int .u64 e)) (by kernel_rfl) (cell_two ((drew_bel wF).block sn (by omega) |>.trans HGF.out)).2 (fun hHeld => ?_)
          obtain ⟨wG, hwG⟩ : ∃ wG, wF.drew = wG := ⟨_, rfl⟩
          rw [hwG] at hHeld ⊢
          have HOG : Hid (OwnL ES N wG (.slice (some ⟨g, 0, none⟩) m3 c3) ss) := by rw [← hwG]; exact HOF.out.bel (drew_bel wF)
          have HBG : Hid (Below N w1 wG) := by rw [← hwG]; exact HBF.out.trans ((drew_bel wF).mono (by have := HBF.out.size; omega))
          have heg : wG.cell? ⟨g, q * 2 + 1, none⟩ = some (.int .u64 se) := by rw [← hwG]; exact HEF.out
          have hzg : ∀ i, wG.frozen? ⟨g, i, none⟩ = false := by rw [← hwG]; exact HZF.out
          clear hwG HOF HBF HGF HZF HEF
          have hNs : OwnL ES N (wG.setCell ⟨g, q * 2 + 1, none⟩ (.int .u64 (max se e))) (.slice (some ⟨g, 0, none⟩) m3 c3) (ss.set q (sf, max se e)) := HOG.out.setc (j := 1) hql (by decide) (.int .u64 (max se e)) (sf, max se e) (by rw [HSQ.out]; rfl)
          have HNS : Hid (OwnL ES N (wG.setCell ⟨g, q * 2 + 1, none⟩ (.int .u64 (max se e))) (.slice (some ⟨g, 0, none⟩) m3 c3) (spans (S.take (i + 1)))) := by rw [HNXT.out]; exact hNs
          have HBS : Hid (Below N w1 (wG.setCell ⟨g, q * 2 + 1, none⟩ (.int .u64 (max se e)))) := HBG.out.setCell (p := ⟨g, q * 2 + 1, none⟩) hgN _
          have hlen2 : (spans (S.take (i + 1))).length = m3 := by rw [HNXT.out, List.length_set, HM3.out]
          clear hNs
          refine wpAnyH_take (i := 0) (v := ?_) rfl (by kernel_rfl) (by kernel_rfl) (by kernel_rfl) (fun _ _ _ h => h) (Or.inl ⟨by rfl, ?_⟩) (by assumption) ?_
          case refine_2 => intro W hSw; have j0 := hSw; go_simp; try rfl
          try simp only [Act.put, List.getElem_toArray, List.getElem_cons_zero, List.setIfInBounds_toArray, List.set_cons_zero, List.set_cons_succ]
          refine wpAnyH_take (i := 1) (v := ?_) rfl (by kernel_rfl) (by kernel_rfl) (by kernel_rfl) (fun _ _ _ h => h) (Or.inl ⟨by rfl, ?_⟩) (by assumption) ?_
          case refine_2 => intro W hSw; have j0 := hSw; go_simp; try rfl
          try simp only [Act.put, List.getElem_toArray, List.getElem_cons_zero, List.getElem_cons_succ, List.setIfInBounds_toArray, List.set_cons_zero, List.set_cons_succ]
          refine wpAnyH_take (i := 2) (v := ?_) rfl (by kernel_rfl) (by kernel_rfl) (by kernel_rfl) (fun _ _ _ h => h) (Or.inl ⟨by rfl, ?_⟩) (by assumption) ?_
          case refine_2 => intro W hSw; have j0 := hSw; go_simp; try rfl
          try simp only [Act.put, List.getElem_toArray, List.getElem_cons_zero, List.getElem_cons_succ, List.setIfInBounds_toArray, List.set_cons_zero, List.set_cons_succ]
          refine wpAnyH_take (i := 3) (v := ?_) rfl (by kernel_rfl) (by kernel_rfl) (by kernel_rfl) (fun _ _ _ h => h) (Or.inl ⟨by rfl, ?_⟩) (by assumption) ?_
          case refine_2 => intro W hSw; have j0 := hSw; go_simp; try rfl
          try simp only [Act.put, List.getElem_toArray, List.getElem_cons_zero, List.getElem_cons_succ, List.setIfInBounds_toArray, List.set_cons_zero, List.set_cons_succ]
          refine wpAnyH_take (i := 4) (v := ?_) rfl (by kernel_rfl) (by kernel_rfl) (by kernel_rfl) (fun _ _ _ h => h) (Or.inl ⟨by rfl, ?_⟩) (by assumption) ?_
          case refine_2 => intro W hSw; have j0 := hSw; go_simp; try rfl
          try simp only [Act.put, List.getElem_toArray, List.getElem_cons_zero, List.getElem_cons_succ, List.setIfInBounds_toArray, List.set_cons_zero, List.set_cons_succ]
          refine wpAnyH_take (i := 5) (v := ?_) rfl (by kernel_rfl) (by kernel_rfl) (by kernel_rfl) (fun _ _ _ h => h) (Or.inl ⟨by rfl, ?_⟩) (by assumption) ?_
          case refine_2 => intro W hSw; have j0 := hSw; go_simp; try rfl
          try simp only [Act.put, List.getElem_toArray, List.getElem_cons_zero, List.getElem_cons_succ, List.setIfInBounds_toArray, List.set_cons_zero, List.set_cons_succ]
          refine wpAnyH_take (i := 7) (v := ?_) rfl (by kernel_rfl) (by kernel_rfl) (by kernel_rfl) (fun _ _ _ h => h) (Or.inl ⟨by rfl, ?_⟩) (by assumption) ?_
          case refine_2 => intro W hSw; have j0 := hSw; go_simp; try rfl
          try simp only [Act.put, List.getElem_toArray, List.getElem_cons_zero, List.getElem_cons_succ, List.setIfInBounds_toArray, List.set_cons_zero, List.set_cons_succ]
          refine wpAnyH_take (i := 8) (v := ?_) rfl (by kernel_rfl) (by kernel_rfl) (by kernel_rfl) (fun _ _ _ h => h) (Or.inl ⟨by rfl, ?_⟩) (by assumption) ?_
          case refine_2 => intro W hSw; have j0 := hSw; go_simp; try rfl
          try simp only [Act.put, List.getElem_toArray, List.getElem_cons_zero, List.getElem_cons_succ, List.setIfInBounds_toArray, List.set_cons_zero, List.set_cons_succ]
          refine wpAnyH_ready (rs := [6]) (by kernel_rfl) (by simp) ?_
          refine AllReadyH.cons rfl (fun K hK => ?_) AllReadyH.nil
          go_simp
          refine hK.out _ _ hHeld (fun hHeld => ?_)
          clear hK K
          try simp only [Act.put, List.getElem_toArray, List.getElem_cons_zero, List.getElem_cons_succ, List.setIfInBounds_toArray, List.set_cons_zero, List.set_cons_succ]
          refine wpAnyH_ready (rs := [9]) (by kernel_rfl) (by simp) ?_
          refine AllReadyH.cons rfl (fun K hK => ?_) AllReadyH.nil
          go_simp
          refine hK.out _ _ hHeld (fun hHeld => ?_)
          clear hK K
          try simp only [Act.put, List.getElem_toArray, List.getElem_cons_zero, List.getElem_cons_succ, List.setIfInBounds_toArray, List.set_cons_zero, List.set_cons_succ]
          refine wpAnyH_take (i := 10) (v := ?_) rfl (by kernel_rfl) (by kernel_rfl) (by kernel_rfl) (fun _ _ _ h => h) (Or.inl ⟨by rfl, ?_⟩) (by assumption) ?_
          case refine_2 => intro W hSw; have j0 := hSw; go_simp; try rfl
          try simp only [Act.put, List.getElem_toArray, List.getElem_cons_zero, List.getElem_cons_succ, List.setIfInBounds_toArray, List.set_cons_zero, List.set_cons_succ]
          refine wpAnyH_take (i := 11) (v := ?_) rfl (by kernel_rfl) (by kernel_rfl) (by kernel_rfl) (fun _ _ _ h => h) (Or.inl ⟨by rfl, ?_⟩) (by assumption) ?_
          case refine_2 => intro W hSw; have j0 := hSw; go_simp; try rfl
          try simp only [Act.put, List.getElem_toArray, List.getElem_cons_zero, List.getElem_cons_succ, List.setIfInBounds_toArray, List.set_cons_zero, List.set_cons_succ]
          refine wpAnyH_ready (rs := [12]) (by kernel_rfl) (by simp) ?_
          refine AllReadyH.cons rfl (fun K hK => ?_) AllReadyH.nil
          go_simp
          refine hK.out _ _ ((World.cell?_of_block (w := wG) (Below.heap_setCell wG ⟨g, q * 2 + 1, none⟩ _ sn (by show sn ≠ g; omega))).trans hHeld) (fun hHeld => ?_)
          clear hK K
          try simp only [Act.put, List.getElem_toArray, List.getElem_cons_zero, List.getElem_cons_succ, List.setIfInBounds_toArray, List.set_cons_zero, List.set_cons_succ]
          refine wpAnyH_done (by kernel_rfl) ?_ _
          clear hHeld heg hzg
          go_wp2_with fail
          exact ⟨⟨i + 1, spans (S.take (i + 1)), by omega, by simp, rfl, by omega, HNS.out, HBS.out⟩, by simp [intOf]; omega⟩
        · have hdl : decide (pa ≤ se) = false := by simpa using hle
          have HNXT : Hid (spans (S.take (i + 1)) = ss ++ [(pa, e)]) := by
            show _ = _
            rw [HST2.out, hcc, step_last, if_neg hle]
          clear hat hfz hsq hcc hqq
          go_wp2_with fail
          go_quiet (fail)
          clear hwl
          obtain ⟨wF, hwF⟩ : ∃ wF, wE.drewN nq = wF := ⟨_, rfl⟩
          rw [hwF]
          have HOF : Hid (OwnL ES N wF (.slice (some ⟨g, 0, none⟩) m3 c3) ss) := by rw [← hwF]; exact HOE.out.bel (drewN_bel wE nq)
          have HBF : Hid (Below N w1 wF) := by rw [← hwF]; exact HBE.out.trans ((drewN_bel wE nq).mono (by have := HBE.out.size; omega))
          have HGF : Hid (wF.heap[sn]? = some (Obj.cells #[.int .u64 pa, .int .u64 e] 50)) := by rw [← hwF]; exact HGE.out
          clear hwF HOE HBE HGE d0 d1
          obtain ⟨d0, d1⟩ := cell_two HGF.out
          have HNX : Hid (spans (S.take (i + 1)) = ss ++ [(pa, e)]) := HNXT.out
          obtain ⟨wC, hwC⟩ : ∃ wC, wF.alloc (Obj.cells #[.int .u64 pa, .int .u64 e] 50) = wC := ⟨_, rfl⟩
          have HWC : Hid (wF.alloc (Obj.cells (ES.enc (pa, e)).toArray ES.e) = wC) := hwC
          have hbC : Below wF.heap.size wF wC := by rw [← hwC]; exact (Below.refl _ wF).alloc (Nat.le_refl _) _
          have HBC : Hid (Below N w1 wC) := HBF.out.trans (hbC.mono (by have := HBF.out.size; omega))
          have HOC : Hid (OwnL ES N wC (.slice (some ⟨g, 0, none⟩) m3 c3) ss) := HOF.out.bel hbC
          have hmC : N ≤ wC.heap.size := by have := HBC.out.size; omega
          have hbig : ss.length ≤ 1099511627775 := by omega
          clear hbC
          go_wp2_with (at_builtin; refine list_app1 ES rfl _ _ 39 rfl rfl N (.slice (some ⟨g, 0, none⟩) m3 c3) ss (pa, e) hbig (w := wF) wC rfl HOC.out rfl hmC HWC.out.symm ?_)
          intro v' w' ho hg hat
          have HO3 : Hid (OwnL ES N w' v' (spans (S.take (i + 1)))) := by rw [HNX.out]; exact ho.out
          have HB3 : Hid (Below N w1 w') := HBC.out.trans ((Below.refl _ wC).grown hg.out hmC (fun g e => (HOC.out.row.lt g e).1))
          clear ho hg hat hwC HWC
          go_wp2_with fail
          exact ⟨⟨i + 1, spans (S.take (i + 1)), by omega, by simp, rfl, by rw [HNX.out, List.length_append]; simp; omega, HO3.out, HB3.out⟩, by simp [intOf]; omega⟩
    · obtain rfl : i = n1 := by omega
      have HE : Hid (OwnL ES N wr (.slice a3 m3 c3) (spans S)) := by
        have h1 := HSS.out
        rw [List.take_of_length_le (by rw [HSN.out]; omega)] at h1
        rw [← h1]
        exact HO.out
      go_wp2_with fail
      go_ret
      exact ⟨_, _, _, S, rfl, HE.out.mono hNw, HSM.out, HSP.out, HSB.out.trans (HB.out.mono hNw)⟩
end Go.Proofs.YtagfdmkgnedlbabDoor.Pc
