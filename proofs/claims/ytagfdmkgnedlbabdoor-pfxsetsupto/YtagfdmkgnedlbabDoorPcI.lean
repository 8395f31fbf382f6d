/- pfxSame, pfxRoom, pfxMark: what each answers. -/
import Derived.Test.YtagfdmkgnedlbabDoorPcD
namespace Go.Proofs.YtagfdmkgnedlbabDoor.Pc
open Go.ChangeShapes Go.WideShapes Go.ChangeAt Go.RowKit Go.Joins Go.Proofs.YtagfdmkgnedlbabDoor.PM Go.Proofs.YtagfdmkgnedlbabDoor.Ask Go.Proofs.YtagfdmkgnedlbabDoor.Ge
set_option linter.unusedVariables false

theorem OwnL.takeN {α : Type} {E : El α} {N n m c : Nat} {w : World} {a : Option Addr} {xs : List α} (h : OwnL E N w (.slice a m c) xs) (hn : n ≤ m) (h0 : a = none → n = 0 ∧ c = 0) : OwnL E N w (.slice a n c) (xs.take n) := by
  rcases h.row.2 with ⟨h1, h2⟩ | ⟨g, c', cur, h1, h2, h3, h4, h5, h6, h7⟩
  · cases h1
    have : n = 0 := by omega
    subst this
    simp
    exact OwnL.nil _ _ _
  · cases h1
    have hl : (xs.take n).length = n := by rw [List.length_take]; omega
    refine ⟨cs_len _ _, .inr ⟨g, c, cur, by rw [hl], h2, h3, by omega, h5, h6, ?_⟩⟩
    rw [hl]
    have e1 : cur.toList.take (n * E.k) = (cur.toList.take (xs.length * E.k)).take (n * E.k) := by
      rw [List.take_take, Nat.min_eq_left (Nat.mul_le_mul_right _ hn)]
    have e2 : E.cs xs = E.cs (xs.take n) ++ E.cs (xs.drop n) := by rw [← cs_app, List.take_append_drop]
    rw [e1, h7, e2]
    have e3 : (E.cs (xs.take n)).length = n * E.k := by rw [cs_len, hl]
    rw [← e3]
    exact List.take_left
set_option maxRecDepth 100000 in
set_option maxHeartbeats 4000000 in
theorem psame_any (va : Option Addr) (ca : Nat) (vb : Option Addr) (cb : Nat) (xs : List (Int × Int)) (n : Nat) (hn : xs.length = n) (w : World) (hx : Lst E2 w va xs) (hy : Lst E2 w vb xs) :
    Calls Tryd.prog 12 #[.slice va n ca, .slice vb n cb] w fun e w' => e = .returned (.bool true) ∧ Below w.heap.size w w' := by
  have HX : Hid (Lst E2 w va xs) := hx
  have HY : Hid (Lst E2 w vb xs) := hy
  have HN : Hid (xs.length = n) := hn
  have h63 := hx.small
  rw [hn] at h63
  clear hx hy hn
  go_enter Tryd.func12, Tryd.ntmps12
  go_wp2_with fail
  go_loopw [13] (fun iv wr => ∃ i : Nat, i ≤ n ∧ iv = .int .i64 (i : Int) ∧ Below w.heap.size w wr) (fun i _ => n - (intOf i).toNat)
  case atStart => exact ⟨0, by omega, rfl, Below.refl _ _⟩
  case round =>
    obtain ⟨i, hi, rfl, hb⟩ := hrel
    have HB : Hid (Below w.heap.size w wr) := hb
    clear hb
    by_cases hlt : i < n
    · have hil : i < xs.length := by rw [HN.out]; exact hlt
      obtain ⟨b1, o1, rfl, hb1, hc1⟩ := (HX.out.bel HB.out).cells i hil
      obtain ⟨b2, o2, rfl, hb2, hc2⟩ := (HY.out.bel HB.out).cells i hil
      have hcc : wr.cell? ⟨b1, o1 + i * 2, none⟩ = some (.int .u32 xs[i].1) ∧ wr.cell? ⟨b1, o1 + i * 2 + 1, none⟩ = some (.int .i64 xs[i].2) ∧ wr.cell? ⟨b2, o2 + i * 2, none⟩ = some (.int .u32 xs[i].1) ∧ wr.cell? ⟨b2, o2 + i * 2 + 1, none⟩ = some (.int .i64 xs[i].2) := ⟨hc1 0 (by decide), hc1 1 (by decide), hc2 0 (by decide), hc2 1 (by decide)⟩
      obtain ⟨⟨pa, pn⟩, hpp⟩ : ∃ p, xs[i] = p := ⟨_, rfl⟩
      rw [hpp] at hcc
      dsimp only at hcc
      have HCC : Hid (wr.drew.cell? ⟨b1, o1 + i * 2, none⟩ = some (.int .u32 pa) ∧ wr.drew.cell? ⟨b1, o1 + i * 2 + 1, none⟩ = some (.int .i64 pn) ∧ wr.drew.cell? ⟨b2, o2 + i * 2, none⟩ = some (.int .u32 pa) ∧ wr.drew.cell? ⟨b2, o2 + i * 2 + 1, none⟩ = some (.int .i64 pn)) := hcc
      have HBD : Hid (Below w.heap.size w wr.drew) := HB.out.trans ((drew_bel wr).mono HB.out.size)
      have hii : (i : Int) < n := by omega
      have ii0 : (0 : Int) ≤ i := by omega
      clear hc1 hc2 hpp hcc
      go_upto_region 6 with fail
      refine wp_region_held_drew (S := fun W => W.cell? ⟨b1, o1 + i * 2, none⟩ = some (.int .u32 pa) ∧ W.cell? ⟨b1, o1 + i * 2 + 1, none⟩ = some (.int .i64 pn) ∧ W.cell? ⟨b2, o2 + i * 2, none⟩ = some (.int .u32 pa) ∧ W.cell? ⟨b2, o2 + i * 2 + 1, none⟩ = some (.int .i64 pn)) (by kernel_rfl) HCC.out (fun hHeld => ?_)
      obtain ⟨wD, hwD⟩ : ∃ wD, wr.drew = wD := ⟨_, rfl⟩
      rw [hwD] at hHeld HBD ⊢
      clear hwD HCC
      refine wpAnyH_take (i := 0) (v := ?_) rfl (by kernel_rfl) (by kernel_rfl) (by kernel_rfl) (fun _ _ _ h => h) (Or.inl ⟨by rfl, ?_⟩) (by assumption) ?_
      case refine_2 => intro W hSw; obtain ⟨j0, j1, j2, j3⟩ := hSw; go_simp; try rfl
      try simp only [Act.put, List.getElem_toArray, List.getElem_cons_zero, List.setIfInBounds_toArray, List.set_cons_zero, List.set_cons_succ]
      refine wpAnyH_take (i := 1) (v := ?_) rfl (by kernel_rfl) (by kernel_rfl) (by kernel_rfl) (fun _ _ _ h => h) (Or.inl ⟨by rfl, ?_⟩) (by assumption) ?_
      case refine_2 => intro W hSw; obtain ⟨j0, j1, j2, j3⟩ := hSw; go_simp; try rfl
      try simp only [Act.put, List.getElem_toArray, List.getElem_cons_zero, List.getElem_cons_succ, List.setIfInBounds_toArray, List.set_cons_zero, List.set_cons_succ]
      refine wpAnyH_take (i := 2) (v := ?_) rfl (by kernel_rfl) (by kernel_rfl) (by kernel_rfl) (fun _ _ _ h => h) (Or.inl ⟨by rfl, ?_⟩) (by assumption) ?_
      case refine_2 => intro W hSw; obtain ⟨j0, j1, j2, j3⟩ := hSw; go_simp; try rfl
      try simp only [Act.put, List.getElem_toArray, List.getElem_cons_zero, List.getElem_cons_succ, List.setIfInBounds_toArray, List.set_cons_zero, List.set_cons_succ]
      refine wpAnyH_take (i := 3) (v := ?_) rfl (by kernel_rfl) (by kernel_rfl) (by kernel_rfl) (fun _ _ _ h => h) (Or.inl ⟨by rfl, ?_⟩) (by assumption) ?_
      case refine_2 => intro W hSw; obtain ⟨j0, j1, j2, j3⟩ := hSw; go_simp; try rfl
      try simp only [Act.put, List.getElem_toArray, List.getElem_cons_zero, List.getElem_cons_succ, List.setIfInBounds_toArray, List.set_cons_zero, List.set_cons_succ]
      refine wpAnyH_take (i := 4) (v := ?_) rfl (by kernel_rfl) (by kernel_rfl) (by kernel_rfl) (fun _ _ _ h => h) (Or.inl ⟨by rfl, ?_⟩) (by assumption) ?_
      case refine_2 => intro W hSw; obtain ⟨j0, j1, j2, j3⟩ := hSw; go_simp; try rfl
      try simp only [Act.put, List.getElem_toArray, List.getElem_cons_zero, List.getElem_cons_succ, List.setIfInBounds_toArray, List.set_cons_zero, List.set_cons_succ]
      refine wpAnyH_take (i := 5) (v := ?_) rfl (by kernel_rfl) (by kernel_rfl) (by kernel_rfl) (fun _ _ _ h => h) (Or.inl ⟨by rfl, ?_⟩) (by assumption) ?_
      case refine_2 => intro W hSw; obtain ⟨j0, j1, j2, j3⟩ := hSw; go_simp; try rfl
      try simp only [Act.put, List.getElem_toArray, List.getElem_cons_zero, List.getElem_cons_succ, List.setIfInBounds_toArray, List.set_cons_zero, List.set_cons_succ]
      refine wpAnyH_take (i := 6) (v := ?_) rfl (by kernel_rfl) (by kernel_rfl) (by kernel_rfl) (fun _ _ _ h => h) (Or.inl ⟨by rfl, ?_⟩) (by assumption) ?_
      case refine_2 => intro W hSw; obtain ⟨j0, j1, j2, j3⟩ := hSw; go_simp; try rfl
      try simp only [Act.put, List.getElem_toArray, List.getElem_cons_zero, List.getElem_cons_succ, List.setIfInBounds_toArray, List.set_cons_zero, List.set_cons_succ]
      refine wpAnyH_take (i := 7) (v := ?_) rfl (by kernel_rfl) (by kernel_rfl) (by kernel_rfl) (fun _ _ _ h => h) (Or.inl ⟨by rfl, ?_⟩) (by assumption) ?_
      case refine_2 => intro W hSw; obtain ⟨j0, j1, j2, j3⟩ := hSw; go_simp; try rfl
      try simp only [Act.put, List.getElem_toArray, List.getElem_cons_zero, List.getElem_cons_succ, List.setIfInBounds_toArray, List.set_cons_zero, List.set_cons_succ]
      refine wpAnyH_take (i := 8) (v := ?_) rfl (by kernel_rfl) (by kernel_rfl) (by kernel_rfl) (fun _ _ _ h => h) (Or.inl ⟨by rfl, ?_⟩) (by assumption) ?_
      case refine_2 => intro W hSw; obtain ⟨j0, j1, j2, j3⟩ := hSw; go_simp; try rfl
      try simp only [Act.put, List.getElem_toArray, List.getElem_cons_zero, List.getElem_cons_succ, List.setIfInBounds_toArray, List.set_cons_zero, List.set_cons_succ]
      refine wpAnyH_done (by kernel_rfl) ?_ _
      clear hHeld
      go_wp2_with fail
      exact ⟨⟨i + 1, by omega, by simp, HBD.out⟩, by simp [intOf]; omega⟩
    · obtain rfl : i = n := by omega
      go_wp2_with fail
      go_ret
      exact ⟨rfl, HB.out⟩
def room (xs : List (Int × Int)) : List (Int × Int) := xs ++ [(77, 99), (77, 99), (77, 99)]
set_option maxRecDepth 100000 in
set_option maxHeartbeats 4000000 in
theorem room_any (va : Option Addr) (ca : Nat) (xs : List (Int × Int)) (n : Nat) (hn : xs.length = n) (hbig : n ≤ 274877906944) (w : World) (hx : Lst E2 w va xs) (hnil : va = none → n = 0 ∧ ca = 0) :
    Calls Tryd.prog 14 #[.slice va n ca] w fun e w' => ∃ g c, e = .returned (.slice (some ⟨g, 0, none⟩) (n + 3) c) ∧ OwnL E2 w.heap.size w' (.slice (some ⟨g, 0, none⟩) (n + 3) c) (room xs) ∧ Below w.heap.size w w' := by
  have HX : Hid (Lst E2 w va xs) := hx
  have HN : Hid (xs.length = n) := hn
  have HNI : Hid (va = none → n = 0 ∧ ca = 0) := hnil
  clear hx hn hnil
  go_enter Tryd.func14, Tryd.ntmps14
  obtain ⟨w1, hw1⟩ : ∃ w1, w.alloc (Obj.cells #[] 28) = w1 := ⟨_, rfl⟩
  have HM : Hid (OwnL E2 w.heap.size w1 (.slice (some ⟨w.heap.size, 0, none⟩) 0 0) [] ∧ Below w.heap.size w w1) := own_made0 E2 hw1
  have hm1 : w.heap.size ≤ w1.heap.size := HM.out.2.size
  have HL1 : Hid (Lst E2 w1 va xs) := HX.out.bel HM.out.2
  have hg1 : ([] : List (Int × Int)).length + n ≤ 1099511627775 := by simp; omega
  go_wp2_with (at_builtin; refine list_appL E2 rfl _ _ 22 rfl rfl w.heap.size (.slice (some ⟨w.heap.size, 0, none⟩) 0 0) [] xs va n ca w1 hg1 rfl HM.out.1 rfl HL1.out HNI.out HN.out hm1 ?_)
  intro v2 w2 ho2 hg2 hat2
  have HO2 : Hid (OwnL E2 w.heap.size w2 v2 xs) := ho2.out
  have HB2 : Hid (Below w.heap.size w w2) := HM.out.2.trans ((Below.refl _ w1).grown hg2.out hm1 (fun g e => by cases e; exact Nat.le_refl _))
  clear ho2 hg2 hat2 hw1 hg1 HL1 HM
  go_wp2_with fail
  go_loopw [3, 4] (fun ov iv wr => ∃ i : Nat, i ≤ 3 ∧ iv = .int .i64 (i : Int) ∧ OwnL E2 w.heap.size wr ov (xs ++ List.replicate i (77, 99)) ∧ Below w.heap.size w wr) (fun _ i _ => 3 - (intOf i).toNat)
  case atStart => exact ⟨0, by omega, rfl, by simp; exact HO2.out, HB2.out⟩
  case round =>
    obtain ⟨i, hi, rfl, how, hb⟩ := hrel
    have HO : Hid (OwnL E2 w.heap.size wr u3 (xs ++ List.replicate i (77, 99))) := how
    have HB : Hid (Below w.heap.size w wr) := hb
    clear how hb
    by_cases hlt : i < 3
    · have hii : (i : Int) < 3 := by omega
      obtain ⟨wC, hwC⟩ : ∃ wC, wr.alloc (Obj.cells #[.int .u32 77, .int .i64 99] 28) = wC := ⟨_, rfl⟩
      have HWC : Hid (wr.alloc (Obj.cells (E2.enc (77, 99)).toArray E2.e) = wC) := hwC
      have hbC : Below wr.heap.size wr wC := by rw [← hwC]; exact (Below.refl _ wr).alloc (Nat.le_refl _) _
      have HBC : Hid (Below w.heap.size w wC) := HB.out.trans (hbC.mono HB.out.size)
      obtain ⟨ys, hys⟩ : ∃ ys, xs ++ List.replicate i (77, 99) = ys := ⟨_, rfl⟩
      have HYS : Hid (xs ++ List.replicate i (77, 99) = ys) := hys
      rw [hys] at HO
      have HOC : Hid (OwnL E2 w.heap.size wC u3 ys) := HO.out.bel hbC
      have hmC : w.heap.size ≤ wC.heap.size := HBC.out.size
      have hbig2 : ys.length ≤ 1099511627775 := by rw [← hys, List.length_append, HN.out, List.length_replicate]; omega
      clear hbC hys
      go_wp2_with (at_builtin; refine list_app1 E2 rfl _ _ 22 rfl rfl w.heap.size u3 ys (77, 99) hbig2 (w := wr) wC rfl HOC.out rfl hmC HWC.out.symm ?_)
      intro v' w' ho hg hat
      have HO3 : Hid (OwnL E2 w.heap.size w' v' (xs ++ List.replicate (i + 1) (77, 99))) := by
        have e : xs ++ List.replicate (i + 1) (77, 99) = ys ++ [(77, 99)] := by rw [← HYS.out, List.replicate_succ', List.append_assoc]
        rw [e]
        exact ho.out
      have HB3 : Hid (Below w.heap.size w w') := HBC.out.trans ((Below.refl _ wC).grown hg.out hmC (fun g e => (HOC.out.row.lt g e).1))
      clear ho hg hat hwC HWC
      go_wp2_with fail
      exact ⟨⟨i + 1, by omega, by simp, HO3.out, HB3.out⟩, by simp [intOf]; omega⟩
    · obtain rfl : i = 3 := by omega
      have HR : Hid (OwnL E2 w.heap.size wr u3 (room xs)) := HO.out
      have hrl : (room xs).length = n + 3 := by unfold room; rw [List.length_append, HN.out]; rfl
      obtain ⟨a, c, hv, -, hnl, -⟩ := HR.out.form
      rw [hrl] at hv hnl
      have hgf : ∃ g, a = some ⟨g, 0, none⟩ := by
        rcases HR.out.row.2 with ⟨h1, h2⟩ | ⟨g', c', cur, h1, -⟩
        · rw [hrl] at h2; omega
        · rw [hv, hrl] at h1; cases h1; exact ⟨g', rfl⟩
      obtain ⟨g, rfl⟩ := hgf
      subst hv
      go_wp2_with fail
      go_ret
      exact ⟨g, c, rfl, HR.out, HB.out⟩
set_option maxRecDepth 100000 in
set_option maxHeartbeats 4000000 in
theorem mark_any (N : Nat) (a : Option Addr) (n c : Nat) (xs : List (Int × Int)) (mark : Int) (w : World) (hN : N ≤ w.heap.size) (ho : OwnL E2 N w (.slice a n c) xs) (hbig : n ≤ 274877906944) :
    Calls Tryd.prog 16 #[.slice a n c, .int .i64 mark] w fun e w' => (∃ u, e = .returned u) ∧ w.grownBy w' (Value.slice a n c).ownBlock := by
  have HO0 : Hid (OwnL E2 N w (.slice a n c) xs) := ho
  have hlen := ho.lst.2
  have HN : Hid (xs.length = n) := hlen
  clear ho hlen
  go_enter Tryd.func16, Tryd.ntmps16
  go_wp2_with fail
  go_loopw [8] (fun iv wr => ∃ (i : Nat) (ys : List (Int × Int)), i ≤ n ∧ iv = .int .i64 (i : Int) ∧ ys.length = n ∧ OwnL E2 N wr (.slice a n c) ys ∧ w.grownBy wr (Value.slice a n c).ownBlock) (fun i _ => n - (intOf i).toNat)
  case atStart => exact ⟨0, xs, by omega, rfl, HN.out, HO0.out, ⟨rfl, rfl, rfl, Nat.le_refl _, fun _ _ _ => rfl⟩⟩
  case round =>
    obtain ⟨i, ys, hi, rfl, hyl, how, hgr⟩ := hrel
    have HYL : Hid (ys.length = n) := hyl
    have HO : Hid (OwnL E2 N wr (.slice a n c) ys) := how
    have HG : Hid (w.grownBy wr (Value.slice a n c).ownBlock) := hgr
    clear hyl how hgr HO0
    by_cases hlt : i < n
    · have hil : i < ys.length := by rw [HYL.out]; exact hlt
      have hgf : ∃ g, a = some ⟨g, 0, none⟩ := by
        rcases HO.out.row.2 with ⟨h1, h2⟩ | ⟨g', c', cur, h1, -⟩
        · rw [HYL.out] at h2; omega
        · cases h1; exact ⟨g', rfl⟩
      obtain ⟨g, rfl⟩ := hgf
      obtain ⟨hat, hfz, hgl, hgN⟩ := HO.out.at0
      have c0 : wr.cell? ⟨g, i * 2, none⟩ = some (.int .u32 ys[i].1) := hat i hil 0 (by decide)
      have c1 : wr.cell? ⟨g, i * 2 + 1, none⟩ = some (.int .i64 ys[i].2) := hat i hil 1 (by decide)
      have hset1 : OwnL E2 N (wr.setCell ⟨g, i * 2, none⟩ (.int .u32 3)) (.slice (some ⟨g, 0, none⟩) n c) (ys.set i (3, ys[i].2)) := HO.out.setc (j := 0) hil (by decide) (.int .u32 3) (3, ys[i].2) rfl
      have hset2 : OwnL E2 N ((wr.setCell ⟨g, i * 2, none⟩ (.int .u32 3)).setCell ⟨g, i * 2 + 1, none⟩ (.int .i64 mark)) (.slice (some ⟨g, 0, none⟩) n c) ((ys.set i (3, ys[i].2)).set i (3, mark)) := hset1.setc (j := 1) (by rw [List.length_set]; exact hil) (by decide) (.int .i64 mark) (3, mark) (by simp [E2])
      have HS2 : Hid (OwnL E2 N ((wr.setCell ⟨g, i * 2, none⟩ (.int .u32 3)).setCell ⟨g, i * 2 + 1, none⟩ (.int .i64 mark)) (.slice (some ⟨g, 0, none⟩) n c) ((ys.set i (3, ys[i].2)).set i (3, mark))) := hset2
      have HG2 : Hid (w.grownBy ((wr.setCell ⟨g, i * 2, none⟩ (.int .u32 3)).setCell ⟨g, i * 2 + 1, none⟩ (.int .i64 mark)) (Value.slice (some ⟨g, 0, none⟩) n c).ownBlock) := by
        have hb : Below 0 wr ((wr.setCell ⟨g, i * 2, none⟩ (.int .u32 3)).setCell ⟨g, i * 2 + 1, none⟩ (.int .i64 mark)) := ((Below.refl _ wr).setCell (p := ⟨g, i * 2, none⟩) (Nat.zero_le _) _).setCell (p := ⟨g, i * 2 + 1, none⟩) (Nat.zero_le _) _
        refine ⟨hb.os.trans HG.out.os, hb.tape.trans HG.out.tape, hb.output.trans HG.out.output, Nat.le_trans HG.out.size hb.size, fun k hk hne => ?_⟩
        have hkg : ¬ k = g := fun e => hne (by rw [e]; rfl)
        rw [Below.heap_setCell _ _ _ _ (by show k ≠ g; exact hkg), Below.heap_setCell _ _ _ _ (by show k ≠ g; exact hkg)]
        exact HG.out.block k hk hne
      have hii : (i : Int) < n := by omega
      have ii0 : (0 : Int) ≤ i := by omega
      clear hat hset1 hset2 HO HG
      go_wp2_with fail
      exact ⟨⟨i + 1, (ys.set i (3, ys[i].2)).set i (3, mark), by omega, by simp, by rw [List.length_set, List.length_set]; exact HYL.out, HS2.out, HG2.out⟩, by simp [intOf]; omega⟩
    · obtain rfl : i = n := by omega
      go_wp2_with fail
      go_loopw [0, 5] (fun ov jv wr => ∃ (j : Nat) (zs : List (Int × Int)), j ≤ 40 ∧ jv = .int .i64 (j : Int) ∧ zs.length = i + j ∧ OwnL E2 N wr ov zs ∧ (ov.ownBlock = (Value.slice a i c).ownBlock ∨ ∀ g, ov.ownBlock = some g → w.heap.size ≤ g) ∧ w.grownBy wr (Value.slice a i c).ownBlock) (fun _ i _ => 40 - (intOf i).toNat)
      case atStart => exact ⟨0, ys, by omega, rfl, HYL.out, HO.out, Or.inl rfl, HG.out⟩
      case round =>
        obtain ⟨j, zs, hj, rfl, hzl, how, hor, hgr⟩ := hrel
        have HZL : Hid (zs.length = i + j) := hzl
        have HOZ : Hid (OwnL E2 N wr u0 zs) := how
        have HOR : Hid (u0.ownBlock = (Value.slice a i c).ownBlock ∨ ∀ g, u0.ownBlock = some g → w.heap.size ≤ g) := hor
        have HGZ : Hid (w.grownBy wr (Value.slice a i c).ownBlock) := hgr
        clear hzl how hor hgr HO HG
        by_cases hjl : j < 40
        · have hjj : (j : Int) < 40 := by omega
          obtain ⟨wC, hwC⟩ : ∃ wC, wr.alloc (Obj.cells #[.int .u32 4, .int .i64 mark] 28) = wC := ⟨_, rfl⟩
          have HWC : Hid (wr.alloc (Obj.cells (E2.enc (4, mark)).toArray E2.e) = wC) := hwC
          have hbC : Below wr.heap.size wr wC := by rw [← hwC]; exact (Below.refl _ wr).alloc (Nat.le_refl _) _
          have HOC : Hid (OwnL E2 N wC u0 zs) := HOZ.out.bel hbC
          have HGC : Hid (w.grownBy wC (Value.slice a i c).ownBlock) := ⟨hbC.os.trans HGZ.out.os, hbC.tape.trans HGZ.out.tape, hbC.output.trans HGZ.out.output, Nat.le_trans HGZ.out.size hbC.size, fun k hk hne => (hbC.block k (Nat.lt_of_lt_of_le hk HGZ.out.size)).trans (HGZ.out.block k hk hne)⟩
          have hwC2 : w.heap.size ≤ wC.heap.size := HGC.out.size
          have hmC : N ≤ wC.heap.size := by omega
          have hbig2 : zs.length ≤ 1099511627775 := by rw [HZL.out]; omega
          clear hbC
          go_wp2_with (at_builtin; refine list_app1 E2 rfl _ _ 22 rfl rfl N u0 zs (4, mark) hbig2 (w := wr) wC rfl HOC.out rfl hmC HWC.out.symm ?_)
          intro v' w' ho hg hat
          have HO3 : Hid (OwnL E2 N w' v' (zs ++ [(4, mark)])) := ho.out
          have HOR3 : Hid (v'.ownBlock = (Value.slice a i c).ownBlock ∨ ∀ g, v'.ownBlock = some g → w.heap.size ≤ g) := by
            rcases hat.out with h1 | h1
            · rw [h1]; exact HOR.out
            · exact Or.inr (fun g e => by rw [h1] at e; cases e; exact hwC2)
          have HG3 : Hid (w.grownBy w' (Value.slice a i c).ownBlock) := by
            refine ⟨hg.out.os.trans HGC.out.os, hg.out.tape.trans HGC.out.tape, hg.out.output.trans HGC.out.output, Nat.le_trans HGC.out.size hg.out.size, fun k hk hne => ?_⟩
            refine (hg.out.block k (Nat.lt_of_lt_of_le hk HGC.out.size) (fun e => ?_)).trans (HGC.out.block k hk hne)
            rcases HOR.out with h1 | h1
            · rw [h1] at e; exact hne e
            · have := h1 k e.symm; omega
          clear ho hg hat hwC HWC
          go_wp2_with fail
          exact ⟨⟨j + 1, zs ++ [(4, mark)], by omega, by simp, by rw [List.length_append, HZL.out]; rfl, HO3.out, HOR3.out, HG3.out⟩, by simp [intOf]; omega⟩
        · obtain rfl : j = 40 := by omega
          go_wp2_with fail
          refine ⟨rfl, .tuple #[], ?_, ⟨_, rfl⟩, HGZ.out⟩
          simp [results, Tryd.results16, go_sem]
end Go.Proofs.YtagfdmkgnedlbabDoor.Pc
