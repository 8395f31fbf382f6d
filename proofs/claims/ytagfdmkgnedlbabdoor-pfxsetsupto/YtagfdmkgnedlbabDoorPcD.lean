/- The document's pfxEnds and PfxSet: what each answers. -/
import Derived.Test.YtagfdmkgnedlbabDoorPcC
import Derived.Deep.RegionHeld3
import Derived.Deep.CutRange
import Derived.StillTailTactics
import Derived.Lib.QuietBelow
import Derived.BigQuiet
namespace Go.Proofs.YtagfdmkgnedlbabDoor.Pc
open Go.ChangeShapes Go.WideShapes Go.ChangeAt Go.RowKit Go.Joins Go.Proofs.YtagfdmkgnedlbabDoor.PM Go.Proofs.YtagfdmkgnedlbabDoor.Ask Go.Proofs.YtagfdmkgnedlbabDoor.Ge
set_option linter.unusedVariables false

theorem drew_bel (w : World) : Below w.heap.size w w.drew := ⟨rfl, rfl, rfl, Nat.le_refl _, fun _ _ => rfl⟩
theorem cell_two {W : World} {g : Nat} {x y : Value} {T : TypeId} (h : W.heap[g]? = some (Obj.cells #[x, y] T)) : W.cell? ⟨g, 0, none⟩ = some x ∧ W.cell? ⟨g, 1, none⟩ = some y := by
  refine ⟨?_, ?_⟩ <;> simp [World.cell?, h]
theorem take_snoc {α : Type} (l : List α) (i : Nat) (h : i < l.length) : l.take (i + 1) = l.take i ++ [l[i]] := by
  rw [List.take_add_one, List.getElem?_eq_getElem h]; rfl
theorem ends_snoc (ps : List (Int × Int)) (i : Nat) (h : i < ps.length) : ends (ps.take (i + 1)) = endsF (ends (ps.take i)) ps[i] := by
  unfold ends
  rw [take_snoc ps i h, List.foldl_append]
  rfl
theorem insE_len (E : List Int) (x : Int) : (insE E x).length ≤ E.length + 1 := by
  induction E with
  | nil => simp [insE]
  | cons a l ih =>
    unfold insE
    split
    · simp
    · split
      · simp
      · simp; omega
set_option maxRecDepth 100000 in
set_option maxHeartbeats 8000000 in
theorem ends_any (va : Option Addr) (cap : Nat) (ps : List (Int × Int)) (L : Nat) (hL : ps.length = L) (hbig : L ≤ 274877906944) (w : World) (hl : Lst E2 w va ps) (hp : ∀ p ∈ ps, InA p) :
    Calls Tryd.prog 28 #[.slice va L cap] w fun e w' => ∃ a n c, e = .returned (.slice a n c) ∧ OwnL EU w.heap.size w' (.slice a n c) (ends ps) ∧ Below w.heap.size w w' ∧ n ≤ 2 + 2 * L := by
  have HL : Hid (Lst E2 w va ps) := hl
  have HP : Hid (∀ p ∈ ps, InA p) := hp
  have HN : Hid (ps.length = L) := hL
  clear hl hp hL
  go_enter Tryd.func28, Tryd.ntmps28
  obtain ⟨w0, hw0⟩ : ∃ w0, w.alloc (Obj.cells #[.int .u64 0, .int .u64 4294967296] 48) = w0 := ⟨_, rfl⟩
  have HM : Hid (OwnL EU w.heap.size w0 (.slice (some ⟨w.heap.size, 0, none⟩) 2 2) [0, 4294967296] ∧ Below w.heap.size w w0) := own_made EU [0, 4294967296] 2 rfl (by decide) hw0
  go_wp2_with fail
  clear hw0
  go_loopw [3, 9] (fun ov iv wr => ∃ (i : Nat) (a : Option Addr) (n c : Nat), i ≤ L ∧ iv = .int .i64 (i : Int) ∧ ov = .slice a n c ∧ n ≤ 2 + 2 * i ∧ OwnL EU w.heap.size wr (.slice a n c) (ends (ps.take i)) ∧ Below w.heap.size w wr) (fun _ i _ => L - (intOf i).toNat)
  case atStart => exact ⟨0, _, 2, 2, by omega, rfl, rfl, by omega, HM.out.1, HM.out.2⟩
  case round =>
    obtain ⟨i, a, n, c, hi, rfl, rfl, hn2, how, hbl⟩ := hrel
    have HO : Hid (OwnL EU w.heap.size wr (.slice a n c) (ends (ps.take i))) := how
    have HB : Hid (Below w.heap.size w wr) := hbl
    clear how hbl HM
    by_cases hlt : i < L
    · have hil : i < ps.length := by rw [HN.out]; exact hlt
      obtain ⟨b, o, rfl, hbl, hc⟩ := (HL.out.bel HB.out).cells i hil
      have c0 : wr.cell? ⟨b, o + i * 2, none⟩ = some (.int .u32 ps[i].1) := hc 0 (by decide)
      have c1 : wr.cell? ⟨b, o + i * 2 + 1, none⟩ = some (.int .i64 ps[i].2) := hc 1 (by decide)
      have hin := HP.out _ (List.getElem_mem hil)
      have HES : Hid (ends (ps.take (i + 1)) = endsF (ends (ps.take i)) ps[i]) := ends_snoc ps i hil
      have HEK : Hid (EOk (ends (ps.take i)) (ps.take i)) := ends_eok _ (fun p hp => HP.out p (List.mem_of_mem_take hp))
      obtain ⟨⟨pa, pn⟩, hpp⟩ : ∃ p, ps[i] = p := ⟨_, rfl⟩
      rw [hpp] at c0 c1 hin HES
      obtain ⟨p0, p1⟩ := hin
      dsimp only at c0 c1 p0 p1
      obtain ⟨E, hE⟩ : ∃ E, ends (ps.take i) = E := ⟨_, rfl⟩
      rw [hE] at HO HES HEK
      have hii : (i : Int) < L := by omega
      have ii0 : (0 : Int) ≤ i := by omega
      obtain ⟨wA, hwA⟩ : ∃ wA, wr.alloc (Obj.cells #[.int .u32 pa, .int .i64 pn] 28) = wA := ⟨_, rfl⟩
      have hbA : Below wr.heap.size wr wA := by rw [← hwA]; exact (Below.refl _ wr).alloc (Nat.le_refl _) _
      have HBA : Hid (Below w.heap.size w wA) := HB.out.trans (hbA.mono HB.out.size)
      have HOA : Hid (OwnL EU w.heap.size wA (.slice a n c) E) := HO.out.bel hbA
      have hgA : wA.heap[wr.heap.size]? = some (Obj.cells #[.int .u32 pa, .int .i64 pn] 28) := by rw [← hwA]; exact World.alloc_heap_new wr _
      have HGA : Hid (wA.heap[wr.heap.size]? = some (Obj.cells #[.int .u32 pa, .int .i64 pn] 28)) := hgA
      obtain ⟨s, hs⟩ : ∃ s, wr.heap.size = s := ⟨_, rfl⟩
      have hsA : wA.heap.size = s + 1 := by rw [← hwA, ← hs]; simp
      rw [hs] at HGA
      obtain ⟨d0, d1⟩ := cell_two HGA.out
      clear hbA hc hpp hE hgA
      cases hv : vld pa pn with
      | false =>
        have HEE : Hid (ends (ps.take (i + 1)) = E) := by
          show _ = _
          rw [HES.out]
          unfold endsF
          rw [if_neg (by rw [hv]; decide)]
        go_wp2_with fail
        refine (rvalid_no pa pn hv p0 p1 _).mono ?_
        rintro e w2 ⟨rfl, hb2⟩
        have HO2 : Hid (OwnL EU w.heap.size w2 (.slice a n c) (ends (ps.take (i + 1)))) := by rw [HEE.out]; exact HOA.out.bel hb2
        have HB2 : Hid (Below w.heap.size w w2) := HBA.out.trans (hb2.mono HBA.out.size)
        clear hb2
        go_wp2_with fail
        exact ⟨⟨i + 1, a, n, c, by omega, by simp, rfl, by omega, HO2.out, HB2.out⟩, by simp [intOf]; omega⟩
      | true =>
        have hend := vld_end pa pn hv p1
        obtain ⟨sz, hsz⟩ : ∃ s, psz pn = s := ⟨_, rfl⟩
        have HSZ : Hid (psz pn = sz) := hsz
        have hsp := psz_pos pn
        obtain ⟨hv1, hv2, -⟩ := (vld_iff _ _).1 hv
        have HEE : Hid (ends (ps.take (i + 1)) = insE (insE E pa) (pa + sz)) := by
          show _ = _
          rw [HES.out, ← hsz]
          unfold endsF
          rw [if_pos hv]
        rw [hsz] at hend hsp
        have hnb : n ≤ 1099511627000 := by omega
        have hcv : IntKind.u64.wrap pa = pa := u64_id (by omega) (by omega)
        have hcs : IntKind.u64.wrap (pa + sz) = pa + sz := u64_id (by omega) (by omega)
        clear hsz
        go_wp2_with fail
        refine (rvalid_yes pa pn hv p0 p1 _).mono ?_
        rintro e w2 ⟨rfl, hb2⟩
        have HO2 : Hid (OwnL EU w.heap.size w2 (.slice a n c) E) := HOA.out.bel hb2
        have HB2 : Hid (Below w.heap.size w w2) := HBA.out.trans (hb2.mono HBA.out.size)
        have HG2 : Hid (w2.heap[s]? = some (Obj.cells #[.int .u32 pa, .int .i64 pn] 28)) := (hb2.block s (by omega)).trans HGA.out
        have hs2 : s < w2.heap.size := by have := hb2.size; omega
        clear hb2 d0 d1 hwA
        obtain ⟨d0, d1⟩ := cell_two HG2.out
        go_wp2_with fail
        refine (insert_any w.heap.size a n c E pa w2 HB2.out.size HO2.out hnb ⟨4294967296, HEK.out.top, by omega⟩).mono ?_
        rintro e w3 ⟨a3, n3, c3, rfl, ho3, hb3⟩
        have HO3 : Hid (OwnL EU w.heap.size w3 (.slice a3 n3 c3) (insE E pa)) := ho3
        have HB3 : Hid (Below w.heap.size w w3) := HB2.out.trans (hb3.mono HB2.out.size)
        have HG3 : Hid (w3.heap[s]? = some (Obj.cells #[.int .u32 pa, .int .i64 pn] 28)) := (hb3.block s hs2).trans HG2.out
        have hn3 : n3 ≤ n + 1 := by
          have h1 := insE_len E pa
          have h2 := ho3.lst.2
          have h3 := HO2.out.lst.2
          omega
        have hs3 : s < w3.heap.size := by have := hb3.size; omega
        clear ho3 hb3 d0 d1
        go_upto_region 7 with fail
        refine wp_region_held_drew (S := fun W => W.cell? ⟨s, 0, none⟩ = some (.int .u32 pa) ∧ W.cell? ⟨s, 1, none⟩ = some (.int .i64 pn)) (by kernel_rfl) ((cell_two ((drew_bel w3).block s hs3 |>.trans HG3.out))) (fun hHeld => ?_)
        obtain ⟨wD, hwD⟩ : ∃ wD, w3.drew = wD := ⟨_, rfl⟩
        rw [hwD] at hHeld ⊢
        have HOD : Hid (OwnL EU w.heap.size wD (.slice a3 n3 c3) (insE E pa)) := by rw [← hwD]; exact HO3.out.bel (drew_bel w3)
        have HBD : Hid (Below w.heap.size w wD) := by rw [← hwD]; exact HB3.out.trans ((drew_bel w3).mono HB3.out.size)
        have hsD : s < wD.heap.size := by rw [← hwD]; exact hs3
        clear hwD HO3 HB3 HG3
        refine wpAnyH_take (i := 0) (v := ?_) rfl (by kernel_rfl) (by kernel_rfl) (by kernel_rfl) (fun _ _ _ h => h) (Or.inl ⟨by rfl, ?_⟩) (by assumption) ?_
        case refine_2 => intro W hSw; obtain ⟨j0, j1⟩ := hSw; go_simp; try rfl
        try simp only [Act.put, List.getElem_toArray, List.getElem_cons_zero, List.setIfInBounds_toArray, List.set_cons_zero, List.set_cons_succ]
        refine wpAnyH_take (i := 1) (v := ?_) rfl (by kernel_rfl) (by kernel_rfl) (by kernel_rfl) (fun _ _ _ h => h) (Or.inl ⟨by rfl, ?_⟩) (by assumption) ?_
        case refine_2 => intro W hSw; obtain ⟨j0, j1⟩ := hSw; go_simp; try rfl
        try simp only [Act.put, List.getElem_toArray, List.getElem_cons_zero, List.getElem_cons_succ, List.setIfInBounds_toArray, List.set_cons_zero, List.set_cons_succ]
        refine wpAnyH_take (i := 2) (v := ?_) rfl (by kernel_rfl) (by kernel_rfl) (by kernel_rfl) (fun _ _ _ h => h) (Or.inl ⟨by rfl, ?_⟩) (by assumption) ?_
        case refine_2 => intro W hSw; obtain ⟨j0, j1⟩ := hSw; go_simp; try rfl
        try simp only [Act.put, List.getElem_toArray, List.getElem_cons_zero, List.getElem_cons_succ, List.setIfInBounds_toArray, List.set_cons_zero, List.set_cons_succ]
        refine wpAnyH_take (i := 3) (v := ?_) rfl (by kernel_rfl) (by kernel_rfl) (by kernel_rfl) (fun _ _ _ h => h) (Or.inl ⟨by rfl, ?_⟩) (by assumption) ?_
        case refine_2 => intro W hSw; obtain ⟨j0, j1⟩ := hSw; go_simp; try rfl
        try simp only [Act.put, List.getElem_toArray, List.getElem_cons_zero, List.getElem_cons_succ, List.setIfInBounds_toArray, List.set_cons_zero, List.set_cons_succ]
        refine wpAnyH_take (i := 4) (v := ?_) rfl (by kernel_rfl) (by kernel_rfl) (by kernel_rfl) (fun _ _ _ h => h) (Or.inl ⟨by rfl, ?_⟩) (by assumption) ?_
        case refine_2 => intro W hSw; obtain ⟨j0, j1⟩ := hSw; go_simp; try rfl
        try simp only [Act.put, List.getElem_toArray, List.getElem_cons_zero, List.getElem_cons_succ, List.setIfInBounds_toArray, List.set_cons_zero, List.set_cons_succ]
        refine wpAnyH_take (i := 5) (v := ?_) rfl (by kernel_rfl) (by kernel_rfl) (by kernel_rfl) (fun _ _ _ h => h) (Or.inl ⟨by rfl, ?_⟩) (by assumption) ?_
        case refine_2 => intro W hSw; obtain ⟨j0, j1⟩ := hSw; go_simp; try rfl
        try simp only [Act.put, List.getElem_toArray, List.getElem_cons_zero, List.getElem_cons_succ, List.setIfInBounds_toArray, List.set_cons_zero, List.set_cons_succ]
        refine wpAnyH_ready (rs := [6]) (by kernel_rfl) (by simp) ?_
        refine AllReadyH.cons rfl (fun K hK => ?_) AllReadyH.nil
        go_simp
        refine (size_any pn hv1 hv2 _).mono ?_
        rintro e w5 ⟨rfl, hw5⟩
        rw [hw5, HSZ.out]
        clear hw5 w5
        go_wp2_with fail
        refine hK.out _ _ hHeld (fun hHeld => ?_)
        clear hK K
        try simp only [Act.put, List.getElem_toArray, List.getElem_cons_zero, List.getElem_cons_succ, List.setIfInBounds_toArray, List.set_cons_zero, List.set_cons_succ]
        refine wpAnyH_take (i := 7) (v := ?_) rfl (by kernel_rfl) (by kernel_rfl) (by kernel_rfl) (fun _ _ _ h => h) (Or.inl ⟨by rfl, ?_⟩) (by assumption) ?_
        case refine_2 => intro W hSw; obtain ⟨j0, j1⟩ := hSw; go_simp; try rfl
        try simp only [Act.put, List.getElem_toArray, List.getElem_cons_zero, List.getElem_cons_succ, List.setIfInBounds_toArray, List.set_cons_zero, List.set_cons_succ]
        refine wpAnyH_ready (rs := [8]) (by kernel_rfl) (by simp) ?_
        refine AllReadyH.cons rfl (fun K hK => ?_) AllReadyH.nil
        go_simp
        refine (insert_any w.heap.size a3 n3 c3 (insE E pa) (pa + sz) wD HBD.out.size HOD.out (by omega) ⟨4294967296, mem_insE.2 (Or.inr HEK.out.top), by omega⟩).mono ?_
        rintro e w6 ⟨a6, n6, c6, rfl, ho6, hb6⟩
        have HO6 : Hid (OwnL EU w.heap.size w6 (.slice a6 n6 c6) (ends (ps.take (i + 1)))) := by rw [HEE.out]; exact ho6
        have HB6 : Hid (Below w.heap.size w w6) := HBD.out.trans (hb6.mono HBD.out.size)
        have hn6 : n6 ≤ n3 + 1 := by
          have h1 := insE_len (insE E pa) (pa + sz)
          have h2 := ho6.lst.2
          have h3 := HOD.out.lst.2
          omega
        go_wp2_with fail
        refine hK.out _ _ ⟨(World.cell?_of_block (w := wD) (hb6.block s hsD)).trans hHeld.1, (World.cell?_of_block (w := wD) (hb6.block s hsD)).trans hHeld.2⟩ (fun hHeld => ?_)
        clear hK K ho6 hb6
        try simp only [Act.put, List.getElem_toArray, List.getElem_cons_zero, List.getElem_cons_succ, List.setIfInBounds_toArray, List.set_cons_zero, List.set_cons_succ]
        refine wpAnyH_take (i := 9) (v := ?_) rfl (by kernel_rfl) (by kernel_rfl) (by kernel_rfl) (fun _ _ _ h => h) (Or.inl ⟨by rfl, ?_⟩) (by assumption) ?_
        case refine_2 => intro W hSw; obtain ⟨j0, j1⟩ := hSw; go_simp; try rfl
        try simp only [Act.put, List.getElem_toArray, List.getElem_cons_zero, List.getElem_cons_succ, List.setIfInBounds_toArray, List.set_cons_zero, List.set_cons_succ]
        refine wpAnyH_done (by kernel_rfl) ?_ _
        clear hHeld
        go_wp2_with fail
        exact ⟨⟨i + 1, a6, n6, c6, by omega, by simp, rfl, by omega, HO6.out, HB6.out⟩, by simp [intOf]; omega⟩
    · obtain rfl : i = L := by omega
      have HE : Hid (OwnL EU w.heap.size wr (.slice a n c) (ends ps)) := by
        have h1 := HO.out
        rw [List.take_of_length_le (by rw [HN.out]; omega)] at h1
        exact h1
      clear HO
      go_wp2_with fail
      go_ret
      exact ⟨_, _, _, rfl, HE.out, HB.out, by omega⟩
end Go.Proofs.YtagfdmkgnedlbabDoor.Pc
