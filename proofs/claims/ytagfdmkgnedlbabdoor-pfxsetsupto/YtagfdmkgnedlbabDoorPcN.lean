/- overlap: what it answers. -/
import Derived.Test.YtagfdmkgnedlbabDoorPcM
namespace Go.Proofs.YtagfdmkgnedlbabDoor.Pc
open Go.ChangeShapes Go.WideShapes Go.ChangeAt Go.RowKit Go.Joins Go.Shelf Go.Proofs.YtagfdmkgnedlbabDoor.PM Go.Proofs.YtagfdmkgnedlbabDoor.Ask Go.Proofs.YtagfdmkgnedlbabDoor.Ge
set_option linter.unusedVariables false

def lnOf : Value → Nat
  | .slice _ n _ => n
  | _ => 0
theorem lst_two {w : World} {a : Option Addr} {s : Int × Int} {l : List (Int × Int)} (h : Lst ES w a (s :: l)) : ∃ b o, a = some ⟨b, o, none⟩ ∧ b < w.heap.size ∧ w.cell? ⟨b, o, none⟩ = some (.int .u64 s.1) ∧ w.cell? ⟨b, o + 1, none⟩ = some (.int .u64 s.2) ∧ Lst ES w (some ⟨b, o + 2, none⟩) l := by
  obtain ⟨b, o, rfl, hb, hc⟩ := h.cells 0 (by simp)
  refine ⟨b, o, rfl, hb, ?_, ?_, ?_⟩
  · have h1 : w.cell? ⟨b, o + 0 * 2 + 0, none⟩ = some (.int .u64 s.1) := hc 0 (by decide)
    simpa using h1
  · have h1 : w.cell? ⟨b, o + 0 * 2 + 1, none⟩ = some (.int .u64 s.2) := hc 1 (by decide)
    simpa using h1
  · exact h.drop 1
theorem lst_if {w : World} {a b : Option Addr} {c : Nat} {l : List (Int × Int)} (h : Lst ES w b l) (hc : l.length + 1 ≤ c) : Lst ES w (if c = 1 then a else b) l := by
  split
  · obtain rfl : l = [] := List.length_eq_zero_iff.1 (by omega)
    exact ⟨by simp, fun i hi => absurd hi (by simp)⟩
  · exact h
set_option maxRecDepth 100000 in
set_option maxHeartbeats 16000000 in
theorem ov_any (va vb : Option Addr) (ca cb : Nat) (l m : List (Int × Int)) (n k : Nat) (hn : l.length = n) (hk : m.length = k) (hnc : n ≤ ca) (hkc : k ≤ cb) (hbig : n + k ≤ 1099511627775) (w : World) (hl : Lst ES w va l) (hm : Lst ES w vb m) :
    Calls Tryd.prog 21 #[.slice va n ca, .slice vb k cb] w fun e w' => ∃ a n c, e = .returned (.slice a n c) ∧ OwnL ES w.heap.size w' (.slice a n c) (ov l m) ∧ Below w.heap.size w w' := by
  obtain ⟨R, hR⟩ : ∃ R, ov l m = R := ⟨_, rfl⟩
  rw [hR]
  have HL : Hid (Lst ES w va l) := hl
  have HM : Hid (Lst ES w vb m) := hm
  have HR : Hid (ov l m = R) := hR
  have HN : Hid (l.length = n) := hn
  have HK : Hid (m.length = k) := hk
  clear hl hm hR hn hk
  go_enter Tryd.func21, Tryd.ntmps21
  go_wp2_with fail
  go_loopw [0, 1, 5] (fun av bv ov_ wr => ∃ (a b : Option Addr) (na nb ca' cb' : Nat) (l' m' xs : List (Int × Int)), av = .slice a na ca' ∧ bv = .slice b nb cb' ∧ l'.length = na ∧ m'.length = nb ∧ na ≤ ca' ∧ nb ≤ cb' ∧ Lst ES w a l' ∧ Lst ES w b m' ∧ xs.length + na + nb ≤ n + k ∧ R = xs ++ ov l' m' ∧ OwnL ES w.heap.size wr ov_ xs ∧ Below w.heap.size w wr) (fun a b _ _ => lnOf a + lnOf b)
  case atStart => exact ⟨va, vb, n, k, ca, cb, l, m, [], rfl, rfl, HN.out, HK.out, hnc, hkc, HL.out, HM.out, by simp, by rw [HR.out]; rfl, OwnL.nil _ _ _, Below.refl _ _⟩
  case round =>
    obtain ⟨a, b, na, nb, ca', cb', l', m', xs, rfl, rfl, hna, hnb, hac, hbc, hla, hlb, hxl, hrx, how, hbl⟩ := hrel
    have HRX : Hid (R = xs ++ ov l' m') := hrx
    have HO : Hid (OwnL ES w.heap.size wr u5 xs) := how
    have HB : Hid (Below w.heap.size w wr) := hbl
    have HLA : Hid (Lst ES wr a l') := hla.bel hbl
    have HLB : Hid (Lst ES wr b m') := hlb.bel hbl
    have HLA0 : Hid (Lst ES w a l') := hla
    have HLB0 : Hid (Lst ES w b m') := hlb
    have HNA : Hid (l'.length = na) := hna
    have HNB : Hid (m'.length = nb) := hnb
    clear hrx how hbl hla hlb hna hnb
    by_cases hA : 0 < na
    · by_cases hB : 0 < nb
      · cases l' with
        | nil => have := HNA.out; simp at this; omega
        | cons s l' =>
          cases m' with
          | nil => have := HNB.out; simp at this; omega
          | cons t m' =>
            obtain ⟨ba, oa, rfl, hba, g0, g1, hlA⟩ := lst_two HLA0.out
            obtain ⟨bb, ob, rfl, hbb, i0, i1, hlB⟩ := lst_two HLB0.out
            have HLA1 : Hid (Lst ES w (if ca' = 1 then some ⟨ba, oa, none⟩ else some ⟨ba, oa + 2, none⟩) l') := lst_if hlA (by have := HNA.out; simp at this; omega)
            have HLB1 : Hid (Lst ES w (if cb' = 1 then some ⟨bb, ob, none⟩ else some ⟨bb, ob + 2, none⟩) m') := lst_if hlB (by have := HNB.out; simp at this; omega)
            obtain ⟨f, e⟩ := s
            obtain ⟨f2, e2⟩ := t
            dsimp only at g0 g1 i0 i1
            have HRC : Hid (R = xs ++ ((if max f f2 < min e e2 then [(max f f2, min e e2)] else []) ++ (if e < e2 then ov l' ((f2, e2) :: m') else ov ((f, e) :: l') m'))) := by
              show _ = _
              rw [HRX.out, ov_cons]
            have HCL : Hid (∀ W, Below w.heap.size w W → W.cell? ⟨ba, oa, none⟩ = some (.int .u64 f) ∧ W.cell? ⟨ba, oa + 1, none⟩ = some (.int .u64 e) ∧ W.cell? ⟨bb, ob, none⟩ = some (.int .u64 f2) ∧ W.cell? ⟨bb, ob + 1, none⟩ = some (.int .u64 e2)) := fun W hW =>
              ⟨(World.cell?_of_block (w := w) (hW.block ba hba)).trans g0, (World.cell?_of_block (w := w) (hW.block ba hba)).trans g1, (World.cell?_of_block (w := w) (hW.block bb hbb)).trans i0, (World.cell?_of_block (w := w) (hW.block bb hbb)).trans i1⟩
            clear hlA hlB g0 g1 i0 i1 HRX HLA HLB
            have hai : (0 : Int) < na := by omega
            have hbi : (0 : Int) < nb := by omega
            go_upto_region 3 with fail
            have hbD0 : Below w.heap.size w wr.drew := HB.out.trans ((drew_bel wr).mono HB.out.size)
            refine wp_region_held_drew (S := fun W => W.cell? ⟨ba, oa, none⟩ = some (.int .u64 f) ∧ W.cell? ⟨ba, oa + 1, none⟩ = some (.int .u64 e) ∧ W.cell? ⟨bb, ob, none⟩ = some (.int .u64 f2) ∧ W.cell? ⟨bb, ob + 1, none⟩ = some (.int .u64 e2)) (by kernel_rfl) (HCL.out _ hbD0) (fun hHeld => ?_)
            obtain ⟨wD, hwD⟩ : ∃ wD, wr.drew = wD := ⟨_, rfl⟩
            rw [hwD] at hHeld hbD0 ⊢
            have HOD : Hid (OwnL ES w.heap.size wD u5 xs) := by rw [← hwD]; exact HO.out.bel (drew_bel wr)
            have HBD : Hid (Below w.heap.size w wD) := hbD0
            clear hwD HO HB hbD0
            refine wpAnyH_take (i := 0) (v := ?_) rfl (by kernel_rfl) (by kernel_rfl) (by kernel_rfl) (fun _ _ _ h => h) (Or.inl ⟨by rfl, ?_⟩) (by assumption) ?_
            case refine_2 => intro W hSw; obtain ⟨j0, j1, j2, j3⟩ := hSw; go_simp; try rfl
            try simp only [Act.put, List.getElem_toArray, List.getElem_cons_zero, List.setIfInBounds_toArray, List.set_cons_zero, List.set_cons_succ]
            refine wpAnyH_take (i := 1) (v := ?_) rfl (by kernel_rfl) (by kernel_rfl) (by kernel_rfl) (fun _ _ _ h => h) (Or.inl ⟨by rfl, ?_⟩) (by assumption) ?_
            case refine_2 => intro W hSw; obtain ⟨j0, j1, j2, j3⟩ := hSw; go_simp; try rfl
            try simp only [Act.put, List.getElem_toArray, List.getElem_cons_zero, List.getElem_cons_succ, List.setIfInBounds_toArray, List.set_cons_zero, List.set_cons_succ]
            refine wpAnyH_take (i := 2) (v := ?_) rfl (by kernel_rfl) (by kernel_rfl) (by kernel_rfl) (fun _ _ _ h => h) (Or.inl ⟨by rfl, ?_⟩) (by assumption) ?_
            case refine_2 => intro W hSw; obtain ⟨j0, j1, j2, j3⟩ := hSw; go_simp; try rfl
            try simp only [Act.put, List.getElem_toArray, List.getElem_cons_zero, List.getElem_cons_succ, List.setIfInBounds_toArray, List.set_cons_zero, List.set_cons_succ]
            refine wpAnyH_take (i := 3) (v := ?_) rfl (by kernel_rfl) (by kernel_rfl) (by kernel_rfl) (fun _ _ _ h => h) (Or.inl ⟨by rfl, ?_⟩) (by assumption) ?_
            case refine_2 => intro W hSw; obtain ⟨j0, j1, j2, j3⟩ := hSw; go_simp; try rfl
            try simp only [Act.put, List.getElem_toArray, List.getElem_cons_zero, List.getElem_cons_succ, List.setIfInBounds_toArray, List.set_cons_zero, List.set_cons_succ]
            refine wpAnyH_take (i := 4) (v := ?_) rfl (by kernel_rfl) (by kernel_rfl) (by kernel_rfl) (fun _ _ _ h => h) (Or.inl ⟨by rfl, ?_⟩) (by assumption) ?_
            case refine_2 => intro W hSw; obtain ⟨j0, j1, j2, j3⟩ := hSw; go_simp; try rfl
            try simp only [Act.put, List.getElem_toArray, List.getElem_cons_zero, List.getElem_cons_succ, List.setIfInBounds_toArray, List.set_cons_zero, List.set_cons_succ]
            refine wpAnyH_take (i := 5) (v := ?_) rfl (by kernel_rfl) (by kernel_rfl) (by kernel_rfl) (fun _ _ _ h => h) (Or.inl ⟨by rfl, ?_⟩) (by assumption) ?_
            case refine_2 => intro W hSw; obtain ⟨j0, j1, j2, j3⟩ := hSw; go_simp; try rfl
            try simp only [Act.put, List.getElem_toArray, List.getElem_cons_zero, List.getElem_cons_succ, List.setIfInBounds_toArray, List.set_cons_zero, List.set_cons_succ]
            refine wpAnyH_take (i := 6) (v := ?_) rfl (by kernel_rfl) (by kernel_rfl) (by kernel_rfl) (fun _ _ _ h => h) (Or.inl ⟨by rfl, ?_⟩) (by assumption) ?_
            case refine_2 => intro W hSw; obtain ⟨j0, j1, j2, j3⟩ := hSw; go_simp; try rfl
            try simp only [Act.put, List.getElem_toArray, List.getElem_cons_zero, List.getElem_cons_succ, List.setIfInBounds_toArray, List.set_cons_zero, List.set_cons_succ]
            refine wpAnyH_take (i := 7) (v := ?_) rfl (by kernel_rfl) (by kernel_rfl) (by kernel_rfl) (fun _ _ _ h => h) (Or.inl ⟨by rfl, ?_⟩) (by assumption) ?_
            case refine_2 => intro W hSw; obtain ⟨j0, j1, j2, j3⟩ := hSw; go_simp; try rfl
            try simp only [Act.put, List.getElem_toArray, List.getElem_cons_zero, List.getElem_cons_succ, List.setIfInBounds_toArray, List.set_cons_zero, List.set_cons_succ]
            refine wpAnyH_take (i := 8) (v := ?_) rfl (by kernel_rfl) (by kernel_rfl) (by kernel_rfl) (fun _ _ _ h => h) (Or.inl ⟨by rfl, ?_⟩) (by assumption) ?_
            case refine_2 => intro W hSw; obtain ⟨j0, j1, j2, j3⟩ := hSw; go_simp; try rfl
            try simp only [Act.put, List.getElem_toArray, List.getElem_cons_zero, List.getElem_cons_succ, List.setIfInBounds_toArray, List.set_cons_zero, List.set_cons_succ]
            refine wpAnyH_take (i := 9) (v := ?_) rfl (by kernel_rfl) (by kernel_rfl) (by kernel_rfl) (fun _ _ _ h => h) (Or.inl ⟨by rfl, ?_⟩) (by assumption) ?_
            case refine_2 => intro W hSw; obtain ⟨j0, j1, j2, j3⟩ := hSw; go_simp; try rfl
            try simp only [Act.put, List.getElem_toArray, List.getElem_cons_zero, List.getElem_cons_succ, List.setIfInBounds_toArray, List.set_cons_zero, List.set_cons_succ]
            refine wpAnyH_take (i := 10) (v := ?_) rfl (by kernel_rfl) (by kernel_rfl) (by kernel_rfl) (fun _ _ _ h => h) (Or.inl ⟨by rfl, ?_⟩) (by assumption) ?_
            case refine_2 => intro W hSw; obtain ⟨j0, j1, j2, j3⟩ := hSw; go_simp; try rfl
            try simp only [Act.put, List.getElem_toArray, List.getElem_cons_zero, List.getElem_cons_succ, List.setIfInBounds_toArray, List.set_cons_zero, List.set_cons_succ]
            refine wpAnyH_take (i := 11) (v := ?_) rfl (by kernel_rfl) (by kernel_rfl) (by kernel_rfl) (fun _ _ _ h => h) (Or.inl ⟨by rfl, ?_⟩) (by assumption) ?_
            case refine_2 => intro W hSw; obtain ⟨j0, j1, j2, j3⟩ := hSw; go_simp; try rfl
            try simp only [Act.put, List.getElem_toArray, List.getElem_cons_zero, List.getElem_cons_succ, List.setIfInBounds_toArray, List.set_cons_zero, List.set_cons_succ]
            refine wpAnyH_take (i := 12) (v := ?_) rfl (by kernel_rfl) (by kernel_rfl) (by kernel_rfl) (fun _ _ _ h => h) (Or.inl ⟨by rfl, ?_⟩) (by assumption) ?_
            case refine_2 => intro W hSw; obtain ⟨j0, j1, j2, j3⟩ := hSw; go_simp; try rfl
            try simp only [Act.put, List.getElem_toArray, List.getElem_cons_zero, List.getElem_cons_succ, List.setIfInBounds_toArray, List.set_cons_zero, List.set_cons_succ]
            refine wpAnyH_take (i := 13) (v := ?_) rfl (by kernel_rfl) (by kernel_rfl) (by kernel_rfl) (fun _ _ _ h => h) (Or.inl ⟨by rfl, ?_⟩) (by assumption) ?_
            case refine_2 => intro W hSw; obtain ⟨j0, j1, j2, j3⟩ := hSw; go_simp; try rfl
            try simp only [Act.put, List.getElem_toArray, List.getElem_cons_zero, List.getElem_cons_succ, List.setIfInBounds_toArray, List.set_cons_zero, List.set_cons_succ]
            refine wpAnyH_take (i := 14) (v := ?_) rfl (by kernel_rfl) (by kernel_rfl) (by kernel_rfl) (fun _ _ _ h => h) (Or.inl ⟨by rfl, ?_⟩) (by assumption) ?_
            case refine_2 => intro W hSw; obtain ⟨j0, j1, j2, j3⟩ := hSw; go_simp; try rfl
            try simp only [Act.put, List.getElem_toArray, List.getElem_cons_zero, List.getElem_cons_succ, List.setIfInBounds_toArray, List.set_cons_zero, List.set_cons_succ]
            refine wpAnyH_take (i := 15) (v := ?_) rfl (by kernel_rfl) (by kernel_rfl) (by kernel_rfl) (fun _ _ _ h => h) (Or.inl ⟨by rfl, ?_⟩) (by assumption) ?_
            case refine_2 => intro W hSw; obtain ⟨j0, j1, j2, j3⟩ := hSw; go_simp; try rfl
            try simp only [Act.put, List.getElem_toArray, List.getElem_cons_zero, List.getElem_cons_succ, List.setIfInBounds_toArray, List.set_cons_zero, List.set_cons_succ]
            refine wpAnyH_take (i := 16) (v := ?_) rfl (by kernel_rfl) (by kernel_rfl) (by kernel_rfl) (fun _ _ _ h => h) (Or.inl ⟨by rfl, ?_⟩) (by assumption) ?_
            case refine_2 => intro W hSw; obtain ⟨j0, j1, j2, j3⟩ := hSw; go_simp; try rfl
            try simp only [Act.put, List.getElem_toArray, List.getElem_cons_zero, List.getElem_cons_succ, List.setIfInBounds_toArray, List.set_cons_zero, List.set_cons_succ]
            refine wpAnyH_take (i := 17) (v := ?_) rfl (by kernel_rfl) (by kernel_rfl) (by kernel_rfl) (fun _ _ _ h => h) (Or.inl ⟨by rfl, ?_⟩) (by assumption) ?_
            case refine_2 => intro W hSw; obtain ⟨j0, j1, j2, j3⟩ := hSw; go_simp; try rfl
            try simp only [Act.put, List.getElem_toArray, List.getElem_cons_zero, List.getElem_cons_succ, List.setIfInBounds_toArray, List.set_cons_zero, List.set_cons_succ]
            refine wpAnyH_take (i := 18) (v := ?_) rfl (by kernel_rfl) (by kernel_rfl) (by kernel_rfl) (fun _ _ _ h => h) (Or.inl ⟨by rfl, ?_⟩) (by assumption) ?_
            case refine_2 => intro W hSw; obtain ⟨j0, j1, j2, j3⟩ := hSw; go_simp; try rfl
            try simp only [Act.put, List.getElem_toArray, List.getElem_cons_zero, List.getElem_cons_succ, List.setIfInBounds_toArray, List.set_cons_zero, List.set_cons_succ]
            have HH : Hid (∀ o, (wD.alloc o).cell? ⟨ba, oa, none⟩ = some (.int .u64 f) ∧ (wD.alloc o).cell? ⟨ba, oa + 1, none⟩ = some (.int .u64 e) ∧ (wD.alloc o).cell? ⟨bb, ob, none⟩ = some (.int .u64 f2) ∧ (wD.alloc o).cell? ⟨bb, ob + 1, none⟩ = some (.int .u64 e2)) := fun o => HCL.out _ (HBD.out.alloc HBD.out.size o)
            refine wpAnyH_ready (rs := [19]) (by kernel_rfl) (by simp) ?_
            refine AllReadyH.cons rfl (fun K hK => ?_) AllReadyH.nil
            go_simp
            refine hK.out _ _ (HH.out _) (fun hHeld => ?_)
            clear hK K
            try simp only [Act.put, List.getElem_toArray, List.getElem_cons_zero, List.getElem_cons_succ, List.setIfInBounds_toArray, List.set_cons_zero, List.set_cons_succ]
            refine wpAnyH_ready (rs := [20]) (by kernel_rfl) (by simp) ?_
            refine AllReadyH.cons rfl (fun K hK => ?_) AllReadyH.nil
            go_simp
            refine hK.out _ _ (HH.out _) (fun hHeld => ?_)
            clear hK K
            try simp only [Act.put, List.getElem_toArray, List.getElem_cons_zero, List.getElem_cons_succ, List.setIfInBounds_toArray, List.set_cons_zero, List.set_cons_succ]

            refine wpAnyH_done (by kernel_rfl) ?_ _
            clear hHeld HH
            obtain ⟨p, hp⟩ : ∃ p, max f f2 = p := ⟨_, rfl⟩
            obtain ⟨q, hq⟩ : ∃ q, min e e2 = q := ⟨_, rfl⟩
            rw [hp, hq] at HRC ⊢
            obtain ⟨sb, hsb⟩ : ∃ s, wD.heap.size = s := ⟨_, rfl⟩
            obtain ⟨wE, hwE⟩ : ∃ wE, wD.alloc (Obj.cells #[.int .u64 p, .int .u64 q] 50) = wE := ⟨_, rfl⟩
            rw [hwE, hsb]
            have hbE : Below wD.heap.size wD wE := by rw [← hwE]; exact (Below.refl _ wD).alloc (Nat.le_refl _) _
            have HGE : Hid (wE.heap[sb]? = some (Obj.cells #[.int .u64 p, .int .u64 q] 50)) := by rw [← hwE, ← hsb]; exact World.alloc_heap_new wD _
            have HOE : Hid (OwnL ES w.heap.size wE u5 xs) := HOD.out.bel hbE
            have HBE : Hid (Below w.heap.size w wE) := HBD.out.trans (hbE.mono HBD.out.size)
            have hxb : xs.length ≤ 1099511627775 := by omega
            clear hbE hwE HOD HBD hp hq hsb
            obtain ⟨d0, d1⟩ := cell_two HGE.out
            by_cases hc : p < q
            · have HR2 : Hid (R = (xs ++ [(p, q)]) ++ (if e < e2 then ov l' ((f2, e2) :: m') else ov ((f, e) :: l') m')) := by
                show _ = _
                rw [HRC.out, if_pos hc, List.append_assoc]
              clear HRC
              obtain ⟨wC, hwC⟩ : ∃ wC, wE.alloc (Obj.cells #[.int .u64 p, .int .u64 q] 50) = wC := ⟨_, rfl⟩
              have HWC : Hid (wE.alloc (Obj.cells (ES.enc (p, q)).toArray ES.e) = wC) := hwC
              have hbC : Below wE.heap.size wE wC := by rw [← hwC]; exact (Below.refl _ wE).alloc (Nat.le_refl _) _
              have HBC : Hid (Below w.heap.size w wC) := HBE.out.trans (hbC.mono HBE.out.size)
              have HOC : Hid (OwnL ES w.heap.size wC u5 xs) := HOE.out.bel hbC
              have hmC : w.heap.size ≤ wC.heap.size := HBC.out.size
              clear hbC
              go_wp2_with (at_builtin; refine list_app1 ES rfl _ _ 39 rfl rfl w.heap.size u5 xs (p, q) hxb (w := wE) wC rfl HOC.out rfl hmC HWC.out.symm ?_)
              intro v' w' ho hg hat
              have HO2 : Hid (OwnL ES w.heap.size w' v' (xs ++ [(p, q)])) := ho.out
              have HB2 : Hid (Below w.heap.size w w') := HBC.out.trans ((Below.refl _ wC).grown hg.out hmC (fun g e => (HOC.out.row.lt g e).1))
              have hyl : (xs ++ [(p, q)]).length + na + nb ≤ n + k + 1 := by rw [List.length_append]; simp; omega
              clear ho hg hat hwC HWC d0 d1
              obtain ⟨c0, c1, k0, k1⟩ := HCL.out _ HB2.out
              have HOF : Hid (∀ k, OwnL ES w.heap.size (w'.drewN k) v' (xs ++ [(p, q)])) := fun k => HO2.out.bel (drewN_bel _ k)
              have HBF : Hid (∀ k, Below w.heap.size w (w'.drewN k)) := fun k => HB2.out.trans ((drewN_bel _ k).mono HB2.out.size)
              by_cases he : e < e2
              · have HRF : Hid (R = (xs ++ [(p, q)]) ++ ov l' ((f2, e2) :: m')) := by show _ = _; rw [HR2.out, if_pos he]
                clear HR2
                go_wp2_with fail
                go_quiet (fail)
                go_wp2_with fail
                exact ⟨⟨_, _, na - 1, nb, ca' - 1, cb', l', (f2, e2) :: m', (xs ++ [(p, q)]), rfl, rfl, by have := HNA.out; simp at this; omega, HNB.out, by omega, hbc, HLA1.out, HLB0.out, by omega, HRF.out, HOF.out _, HBF.out _⟩, by simp [lnOf]; omega⟩
              · have HRF : Hid (R = (xs ++ [(p, q)]) ++ ov ((f, e) :: l') m') := by show _ = _; rw [HR2.out, if_neg he]
                clear HR2
                go_wp2_with fail
                go_quiet (fail)
                go_wp2_with fail
                exact ⟨⟨_, _, na, nb - 1, ca', cb' - 1, (f, e) :: l', m', (xs ++ [(p, q)]), rfl, rfl, HNA.out, by have := HNB.out; simp at this; omega, hac, by omega, HLA0.out, HLB1.out, by omega, HRF.out, HOF.out _, HBF.out _⟩, by simp [lnOf]; omega⟩
            · have HR2 : Hid (R = xs ++ (if e < e2 then ov l' ((f2, e2) :: m') else ov ((f, e) :: l') m')) := by
                show _ = _
                rw [HRC.out, if_neg hc, List.nil_append]
              clear HRC
              have hyl : xs.length + na + nb ≤ n + k + 1 := by omega
              obtain ⟨c0, c1, k0, k1⟩ := HCL.out _ HBE.out
              have HOF : Hid (∀ k, OwnL ES w.heap.size (wE.drewN k) u5 xs) := fun k => HOE.out.bel (drewN_bel _ k)
              have HBF : Hid (∀ k, Below w.heap.size w (wE.drewN k)) := fun k => HBE.out.trans ((drewN_bel _ k).mono HBE.out.size)
              by_cases he : e < e2
              · have HRF : Hid (R = xs ++ ov l' ((f2, e2) :: m')) := by show _ = _; rw [HR2.out, if_pos he]
                clear HR2
                go_wp2_with fail
                go_quiet (fail)
                go_wp2_with fail
                exact ⟨⟨_, _, na - 1, nb, ca' - 1, cb', l', (f2, e2) :: m', xs, rfl, rfl, by have := HNA.out; simp at this; omega, HNB.out, by omega, hbc, HLA1.out, HLB0.out, by omega, HRF.out, HOF.out _, HBF.out _⟩, by simp [lnOf]; omega⟩
              · have HRF : Hid (R = xs ++ ov ((f, e) :: l') m') := by show _ = _; rw [HR2.out, if_neg he]
                clear HR2
                go_wp2_with fail
                go_quiet (fail)
                go_wp2_with fail
                exact ⟨⟨_, _, na, nb - 1, ca', cb' - 1, (f, e) :: l', m', xs, rfl, rfl, HNA.out, by have := HNB.out; simp at this; omega, hac, by omega, HLA0.out, HLB1.out, by omega, HRF.out, HOF.out _, HBF.out _⟩, by simp [lnOf]; omega⟩
      · obtain rfl : nb = 0 := by omega
        have hai : (0 : Int) < na := by omega
        have HE : Hid (OwnL ES w.heap.size wr u5 R) := by
          have : m' = [] := List.length_eq_zero_iff.1 HNB.out
          rw [HRX.out, this, ov_nil', List.append_nil]; exact HO.out
        obtain ⟨a5, c5, hv, -⟩ := HE.out.form
        subst hv
        go_wp2_with fail
        go_ret
        exact ⟨_, _, _, rfl, HE.out, HB.out⟩
    · obtain rfl : na = 0 := by omega
      have HE : Hid (OwnL ES w.heap.size wr u5 R) := by
        have : l' = [] := List.length_eq_zero_iff.1 HNA.out
        rw [HRX.out, this, ov_nil, List.append_nil]; exact HO.out
      obtain ⟨a5, c5, hv, -⟩ := HE.out.form
      subst hv
      go_wp2_with fail
      go_ret
      exact ⟨_, _, _, rfl, HE.out, HB.out⟩
end Go.Proofs.YtagfdmkgnedlbabDoor.Pc
