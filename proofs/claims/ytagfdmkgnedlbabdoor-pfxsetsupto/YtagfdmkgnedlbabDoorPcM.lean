/- gaps: what it answers. -/
import Derived.Test.YtagfdmkgnedlbabDoorPcH
import Derived.Test.YtagfdmkgnedlbabDoorPcL
namespace Go.Proofs.YtagfdmkgnedlbabDoor.Pc
open Go.ChangeShapes Go.WideShapes Go.ChangeAt Go.RowKit Go.Joins Go.Shelf Go.Proofs.YtagfdmkgnedlbabDoor.PM Go.Proofs.YtagfdmkgnedlbabDoor.Ask Go.Proofs.YtagfdmkgnedlbabDoor.Ge
set_option linter.unusedVariables false

set_option maxRecDepth 100000 in
set_option maxHeartbeats 8000000 in
theorem gaps_any (va : Option Addr) (cap : Nat) (ss : List (Int × Int)) (L : Nat) (hL : ss.length = L) (w : World) (hl : Lst ES w va ss) (hs : SpOk (-1) ss) (h32 : ∀ s ∈ ss, s.2 ≤ 4294967296) :
    Calls Tryd.prog 22 #[.slice va L cap] w fun e w' => ∃ a n c, e = .returned (.slice a n c) ∧ OwnL ES w.heap.size w' (.slice a n c) (gapsF 0 ss) ∧ Below w.heap.size w w' := by
  have HL : Hid (Lst ES w va ss) := hl
  have HN : Hid (ss.length = L) := hL
  have HS : Hid (SpOk (-1) ss) := hs
  have H32 : Hid (∀ s ∈ ss, s.2 ≤ 4294967296) := h32
  have h63 := hl.small
  have hLb : L ≤ 4294967297 := by have := sp_len ss (-1) 4294967296 hs h32 (by omega); omega
  rw [hL] at h63
  clear hl hL hs h32
  go_enter Tryd.func22, Tryd.ntmps22
  go_wp2_with fail
  go_loopw [3, 4, 9] (fun ov av iv wr => ∃ (i : Nat) (x : Int) (xs : List (Int × Int)), i ≤ L ∧ iv = .int .i64 (i : Int) ∧ av = .int .u64 x ∧ 0 ≤ x ∧ x ≤ 4294967296 ∧ xs.length ≤ i ∧ gapsF 0 ss = xs ++ gapsF x (ss.drop i) ∧ OwnL ES w.heap.size wr ov xs ∧ Below w.heap.size w wr) (fun _ _ i _ => L - (intOf i).toNat)
  case atStart => exact ⟨0, 0, [], by omega, rfl, rfl, by omega, by omega, by simp, rfl, OwnL.nil _ _ _, Below.refl _ _⟩
  case round =>
    obtain ⟨i, x, xs, hi, rfl, rfl, hx0, hx1, hxl, hgx, how, hbl⟩ := hrel
    have HGX : Hid (gapsF 0 ss = xs ++ gapsF x (ss.drop i)) := hgx
    have HO : Hid (OwnL ES w.heap.size wr u3 xs) := how
    have HB : Hid (Below w.heap.size w wr) := hbl
    clear hgx how hbl
    have hbig : xs.length ≤ 1099511627775 := by omega
    by_cases hlt : i < L
    · have hil : i < ss.length := by rw [HN.out]; exact hlt
      obtain ⟨b, o, rfl, hbl, hc⟩ := (HL.out.bel HB.out).cells i hil
      have c0 : wr.cell? ⟨b, o + i * 2, none⟩ = some (.int .u64 ss[i].1) := hc 0 (by decide)
      have c1 : wr.cell? ⟨b, o + i * 2 + 1, none⟩ = some (.int .u64 ss[i].2) := hc 1 (by decide)
      obtain ⟨r1, r2, r3⟩ := HS.out.rise i hil
      have h32 := H32.out _ (List.getElem_mem hil)
      have HDR : Hid (ss.drop i = ss[i] :: ss.drop (i + 1)) := List.drop_eq_getElem_cons hil
      obtain ⟨⟨f, e⟩, hse⟩ : ∃ p, ss[i] = p := ⟨_, rfl⟩
      rw [hse] at c0 c1 r1 r2 h32 HDR
      dsimp only at c0 c1 r1 r2 h32
      have HG1 : Hid (gapsF 0 ss = xs ++ ((if x < f then [(x, f)] else []) ++ gapsF e (ss.drop (i + 1)))) := by
        show _ = _
        rw [HGX.out, HDR.out]
        rfl
      have hii : (i : Int) < L := by omega
      have ii0 : (0 : Int) ≤ i := by omega
      obtain ⟨wA, hwA⟩ : ∃ wA, wr.alloc (Obj.cells #[.int .u64 f, .int .u64 e] 50) = wA := ⟨_, rfl⟩
      have hbA : Below wr.heap.size wr wA := by rw [← hwA]; exact (Below.refl _ wr).alloc (Nat.le_refl _) _
      obtain ⟨sb, hsb⟩ : ∃ s, wr.heap.size = s := ⟨_, rfl⟩
      have HGA : Hid (wA.heap[sb]? = some (Obj.cells #[.int .u64 f, .int .u64 e] 50)) := by rw [← hwA, ← hsb]; exact World.alloc_heap_new wr _
      have hsA : wA.heap.size = sb + 1 := by rw [← hwA, ← hsb]; simp
      have HOA : Hid (OwnL ES w.heap.size wA u3 xs) := HO.out.bel hbA
      have HUA : Hid (∀ g, u3.ownBlock = some g → g < sb) := fun g e => by rw [← hsb]; exact (HO.out.row.lt g e).2
      have HBA : Hid (Below w.heap.size w wA) := HB.out.trans (hbA.mono HB.out.size)
      obtain ⟨d0, d1⟩ := cell_two HGA.out
      clear hc hbA hse r3 HDR
      by_cases hxf : x < f
      · have HG2 : Hid (gapsF 0 ss = (xs ++ [(x, f)]) ++ gapsF e (ss.drop (i + 1))) := by
          show _ = _
          rw [HG1.out, if_pos hxf, List.append_assoc]
        clear HG1
        obtain ⟨wC, hwC⟩ : ∃ wC, wA.alloc (Obj.cells #[.int .u64 x, .int .u64 f] 50) = wC := ⟨_, rfl⟩
        have HWC : Hid (wA.alloc (Obj.cells (ES.enc (x, f)).toArray ES.e) = wC) := hwC
        have hbC : Below wA.heap.size wA wC := by rw [← hwC]; exact (Below.refl _ wA).alloc (Nat.le_refl _) _
        have HBC : Hid (Below w.heap.size w wC) := HBA.out.trans (hbC.mono HBA.out.size)
        have HOC : Hid (OwnL ES w.heap.size wC u3 xs) := HOA.out.bel hbC
        have HGC : Hid (wC.heap[sb]? = some (Obj.cells #[.int .u64 f, .int .u64 e] 50)) := (hbC.block sb (by omega)).trans HGA.out
        have hmC : w.heap.size ≤ wC.heap.size := HBC.out.size
        have hsC : sb < wC.heap.size := Nat.lt_of_lt_of_le (by omega) hbC.size
        clear hbC hsA
        go_wp2_with (at_builtin; refine list_app1 ES rfl _ _ 39 rfl rfl w.heap.size u3 xs (x, f) hbig (w := wA) wC rfl HOC.out rfl hmC HWC.out.symm ?_)
        intro v' w' ho hg hat
        have HO2 : Hid (OwnL ES w.heap.size w' v' (xs ++ [(x, f)])) := ho.out
        have HB2 : Hid (Below w.heap.size w w') := HBC.out.trans ((Below.refl _ wC).grown hg.out hmC (fun g e => (HOC.out.row.lt g e).1))
        have HGG : Hid (w'.heap[sb]? = some (Obj.cells #[.int .u64 f, .int .u64 e] 50)) := (hg.out.block sb hsC (fun e2 => by have := HUA.out sb e2.symm; omega)).trans HGC.out
        clear ho hg hat hwC HWC d0 d1 c0 c1 hwA
        obtain ⟨d0, d1⟩ := cell_two HGG.out
        go_wp2_with fail
        exact ⟨⟨i + 1, e, xs ++ [(x, f)], by omega, by simp, rfl, by omega, by omega, by rw [List.length_append]; simp; omega, HG2.out, HO2.out, HB2.out⟩, by simp [intOf]; omega⟩
      · have HG2 : Hid (gapsF 0 ss = xs ++ gapsF e (ss.drop (i + 1))) := by
          show _ = _
          rw [HG1.out, if_neg hxf, List.nil_append]
        clear HG1
        go_wp2_with fail
        exact ⟨⟨i + 1, e, xs, by omega, by simp, rfl, by omega, by omega, by omega, HG2.out, HOA.out, HBA.out⟩, by simp [intOf]; omega⟩
    · obtain rfl : i = L := by omega
      have HE : Hid (gapsF 0 ss = xs ++ (if x < 4294967296 then [(x, 4294967296)] else [])) := by
        show _ = _
        rw [HGX.out, List.drop_eq_nil_of_le (by rw [HN.out]; omega)]
        rfl
      clear HGX
      by_cases hxf : x < 4294967296
      · have HE2 : Hid (gapsF 0 ss = xs ++ [(x, 4294967296)]) := by show _ = _; rw [HE.out, if_pos hxf]
        clear HE
        obtain ⟨wC, hwC⟩ : ∃ wC, wr.alloc (Obj.cells #[.int .u64 x, .int .u64 4294967296] 50) = wC := ⟨_, rfl⟩
        have HWC : Hid (wr.alloc (Obj.cells (ES.enc (x, 4294967296)).toArray ES.e) = wC) := hwC
        have hbC : Below wr.heap.size wr wC := by rw [← hwC]; exact (Below.refl _ wr).alloc (Nat.le_refl _) _
        have HBC : Hid (Below w.heap.size w wC) := HB.out.trans (hbC.mono HB.out.size)
        have HOC : Hid (OwnL ES w.heap.size wC u3 xs) := HO.out.bel hbC
        have hmC : w.heap.size ≤ wC.heap.size := HBC.out.size
        clear hbC
        go_wp2_with (at_builtin; refine list_app1 ES rfl _ _ 39 rfl rfl w.heap.size u3 xs (x, 4294967296) hbig (w := wr) wC rfl HOC.out rfl hmC HWC.out.symm ?_)
        intro v' w' ho hg hat
        have HO2 : Hid (OwnL ES w.heap.size w' v' (gapsF 0 ss)) := by rw [HE2.out]; exact ho.out
        have HB2 : Hid (Below w.heap.size w w') := HBC.out.trans ((Below.refl _ wC).grown hg.out hmC (fun g e => (HOC.out.row.lt g e).1))
        clear ho hg hat hwC HWC
        obtain ⟨a, c, hv, -⟩ := HO2.out.form
        subst hv
        go_wp2_with fail
        go_ret
        exact ⟨_, _, _, rfl, HO2.out, HB2.out⟩
      · have HE2 : Hid (OwnL ES w.heap.size wr u3 (gapsF 0 ss)) := by rw [HE.out, if_neg hxf, List.append_nil]; exact HO.out
        clear HE
        obtain ⟨a, c, hv, -⟩ := HE2.out.form
        subst hv
        go_wp2_with fail
        go_ret
        exact ⟨_, _, _, rfl, HE2.out, HB.out⟩
end Go.Proofs.YtagfdmkgnedlbabDoor.Pc
