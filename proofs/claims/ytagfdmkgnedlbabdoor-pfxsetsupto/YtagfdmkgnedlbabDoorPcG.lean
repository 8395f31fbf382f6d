/- slices.SortFunc of prefixes by Order: what it leaves. -/
import Derived.Test.YtagfdmkgnedlbabDoorPcF
import Derived.Shelf.SlSortCmp.NoneTotal
import Derived.Sort.OwnSortedInts
namespace Go.Proofs.YtagfdmkgnedlbabDoor.Pc
open Go.ChangeShapes Go.WideShapes Go.ChangeAt Go.RowKit Go.Joins Go.Shelf Go.Lib Go.Sort Go.Proofs.YtagfdmkgnedlbabDoor.PM Go.Proofs.YtagfdmkgnedlbabDoor.Ask Go.Proofs.YtagfdmkgnedlbabDoor.Ge
set_option linter.unusedVariables false

def ordP (x y : Int × Int) : Int := ord x.1 x.2 y.1 y.2
theorem ordP_lt (x y : Int × Int) : ltOf ordP x y = decide (x.1 < y.1 ∨ (x.1 = y.1 ∧ x.2 < y.2)) := by
  unfold ltOf ordP ord
  by_cases h1 : x.1 = y.1 ∧ x.2 = y.2
  · rw [if_pos h1]
    have h2 : ¬ (x.1 < y.1 ∨ (x.1 = y.1 ∧ x.2 < y.2)) := by omega
    simp [h2]
  · rw [if_neg h1]
    by_cases h2 : x.1 < y.1 ∨ (x.1 = y.1 ∧ x.2 < y.2)
    · rw [if_pos h2]; simp [h2]
    · rw [if_neg h2]; simp [h2]
theorem ordP_swo : SWO (ltOf ordP) where
  irrefl x := by rw [ordP_lt]; simp
  trans x y z h1 h2 := by rw [ordP_lt] at *; simp at *; omega
  ntrans x y z h1 h2 := by rw [ordP_lt] at *; simp at *; omega
set_option maxHeartbeats 1000000 in
theorem order_lays (x y : Int × Int) (w : World) :
    Calls Tryd.prog 23 #[.agg #[.int .u32 x.1, .int .i64 x.2], .agg #[.int .u32 y.1, .int .i64 y.2]] w fun e w' => e = .returned (.int .i64 (ordP x y)) ∧ ∃ q os', w' = grow (w.drewN q) os' := by
  obtain ⟨a, n⟩ := x
  obtain ⟨b, m⟩ := y
  dsimp only
  go_enter Tryd.func23, Tryd.ntmps23
  go_wp2_with fail
  all_goals
    go_ret
    exact ⟨ret_i64 (by unfold ordP ord; repeat' split
                       all_goals omega), 0, _, by rw [alloc_eq_grow, alloc_eq_grow, grow_grow]; rfl⟩
theorem sort_grown {k : Nat} {w : World} {g n : Nat} {os : Array Obj} (enc : Int × Int → List Value) (d : Array (Int × Int)) : w.grownBy (sortWorldK enc k w g 0 n d os) (some g) := by
  unfold sortWorldK putRowK
  refine ⟨rfl, rfl, rfl, by simp, fun i hi hne => ?_⟩
  rw [heap_grow_old _ _ (by simpa using hi)]
  have : g ≠ i := fun e => hne (by rw [e])
  simp [putRow, mapBlock, Sort.ahead, Array.getElem?_modify, this]
theorem sort_any (N g n c : Nat) (xs : List (Int × Int)) (w : World) (ho : OwnL E2 N w (.slice (some ⟨g, 0, none⟩) n c) xs) (hn40 : n ≤ 1099511627775) :
    Calls Tryd.prog 33 #[.slice (some ⟨g, 0, none⟩) n c, .func (.func 23) #[] #[]] w fun e w' => e = .returned (.tuple #[]) ∧ ∃ ys, ys.Perm xs ∧ ys.Pairwise (fun p q => p.1 ≤ q.1) ∧ Lst E2 w' (some ⟨g, 0, none⟩) ys ∧ w.grownBy w' (some g) := by
  obtain ⟨hc, hf, hg, -⟩ := ho.at0
  have hlen := ho.lst.2
  have hsm : xs.length < 4611686018427387904 := by omega
  have hH : HoldsK E2.enc 2 w g 0 xs.toArray := by
    intro j hj
    have hj2 : j < xs.length * 2 := by simpa using hj
    refine ⟨?_, by rw [Nat.zero_add]; exact hf j⟩
    rw [get_flatK _ _ _ _ (by simpa using hj2), Nat.zero_add]
    have hq : j / 2 < xs.length := by omega
    have h1 := hc (j / 2) hq (j % 2) (by show j % 2 < 2; omega)
    have e1 : j / 2 * E2.k + j % 2 = j := by show j / 2 * 2 + j % 2 = j; omega
    rw [e1] at h1
    rw [h1]
    have e2 : xs.toArray[j / 2]! = xs[j / 2] := by simp [hq]
    rw [e2]
    have hl : j % 2 < (E2.enc xs[j / 2]).length := by show j % 2 < 2; omega
    rw [List.getElem?_eq_getElem hl, List.getElem!_eq_getElem?_getD, List.getElem?_eq_getElem hl]
    rfl
  have eg : ∀ args w, (callFunc 23 args).run Tryd.prog w = .ok (.enter 23 args) w := enters_of Tryd.func23 (by kernel_rfl) rfl
  have hcon := AnyQ.slices_SortFunc Tryd.sortPf 2 Tryd.isAgg28 Tryd.sizeOf28 E2.enc (fun _ => rfl) E2.hone ordP ordP_swo 23 #[] g 0 c xs.toArray w eg (fun _ _ _ _ x y => order_lays x y _) hH hg (by simpa using hsm)
  have hsz : xs.toArray.size = n := by simpa using hlen
  rw [hsz] at hcon
  refine Calls.mono hcon ?_
  rintro e w' ⟨rfl, d', m, os, hp, hs, rfl⟩
  obtain ⟨p1, -, p3⟩ := hp
  rw [hsz] at p1
  refine ⟨rfl, d'.toList, ?_, ?_, ?_, sort_grown _ _⟩
  · have e1 : d'.extract 0 n = d' := by rw [← p1]; simp
    have e2 : xs.toArray.extract 0 n = xs.toArray := by rw [← hsz]; simp
    rw [e1, e2] at p3
    simpa using p3
  · rw [List.pairwise_iff_getElem]
    intro i j hi hj hij
    have hi' : i < d'.size := by simpa using hi
    have hj' : j < d'.size := by simpa using hj
    have h1 := hs i j (Nat.zero_le _) hij (by omega)
    rw [ordP_lt] at h1
    have e1 : d'[j]! = d'[j] := by simp [hj']
    have e2 : d'[i]! = d'[i] := by simp [hi']
    rw [e1, e2] at h1
    simp at h1
    simp
    omega
  · have h9 := holdsK_sortWorldK_c E2.enc 2 w g 0 xs.toArray d' m os hH hg (by omega)
    refine ⟨by simp; omega, fun i hi => ⟨g, 0, rfl, ?_, fun j hj => ?_⟩⟩
    · exact Nat.lt_of_lt_of_le hg (sort_grown (w := w) (g := g) (n := m) (os := os) E2.enc d').size
    · have hi' : i < d'.size := by simpa using hi
      have hj2 : j < 2 := hj
      have h2 := (h9 (i * 2 + j) (by rw [size_flatK]; omega)).1
      rw [get_flatK _ _ _ _ (by omega), show (i * 2 + j) / 2 = i by omega, show (i * 2 + j) % 2 = j by omega] at h2
      have e1 : d'[i]! = d'[i] := by simp [hi']
      rw [e1] at h2
      show _ = (E2.enc d'.toList[i])[j]?
      have e3 : 0 + i * E2.k + j = 0 + (i * 2 + j) := by show 0 + i * 2 + j = _; omega
      rw [e3, h2]
      have hl : j < (E2.enc d'[i]).length := hj2
      simp only [Array.getElem_toList]
      rw [List.getElem?_eq_getElem hl, List.getElem!_eq_getElem?_getD, List.getElem?_eq_getElem hl]
      rfl
def EL : El (Option Addr × Nat × Nat) := ⟨22, 37, 1, 24, .slice none 0 0, fun l => [.slice l.1 l.2.1 l.2.2], by decide, by decide, fun _ => rfl, fun x u hu => by simp at hu; subst hu; rfl, Tryd.underlying37, by kernel_rfl, rfl⟩
/-- a list of lists -/
structure LL (w : World) (vl : Option Addr) (ls : List (Option Addr × Nat × Nat)) (pss : List (List (Int × Int))) : Prop where
  row : Lst EL w vl ls
  len : ls.length = pss.length
  each : ∀ i (h : i < ls.length) (h' : i < pss.length), Lst E2 w ls[i].1 pss[i] ∧ pss[i].length = ls[i].2.1
theorem LL.bel {w w' : World} {vl : Option Addr} {ls : List (Option Addr × Nat × Nat)} {pss : List (List (Int × Int))} (h : LL w vl ls pss) (hb : Below w.heap.size w w') : LL w' vl ls pss :=
  ⟨h.row.bel hb, h.len, fun i h1 h2 => ⟨(h.each i h1 h2).1.bel hb, (h.each i h1 h2).2⟩⟩
def V (p : Int × Int) : Bool := vld p.1 p.2
theorem filt_snoc (ps : List (Int × Int)) (j : Nat) (h : j < ps.length) : (ps.take (j + 1)).filter V = (ps.take j).filter V ++ (if V ps[j] = true then [ps[j]] else []) := by
  rw [take_snoc ps j h, List.filter_append]
  congr 1
  simp [List.filter]
  split <;> simp_all
theorem flat_snoc (pss : List (List (Int × Int))) (i : Nat) (h : i < pss.length) : ((pss.take (i + 1)).flatten).filter V = ((pss.take i).flatten).filter V ++ (pss[i]).filter V := by
  rw [take_snoc pss i h, List.flatten_append, List.filter_append]
  simp
set_option maxRecDepth 100000 in
set_option maxHeartbeats 8000000 in
theorem sorted_any (vl : Option Addr) (cl : Nat) (ls : List (Option Addr × Nat × Nat)) (pss : List (List (Int × Int))) (L : Nat) (hL : ls.length = L) (htot : pss.flatten.length ≤ 274877906944) (hin : ∀ ps ∈ pss, ∀ p ∈ ps, InA p) (w : World) (h : LL w vl ls pss) :
    Calls Tryd.prog 27 #[.slice vl L cl] w fun e w' => ∃ a n c S, e = .returned (.slice a n c) ∧ S.length = n ∧ Lst E2 w' a S ∧ (∀ p, p ∈ S ↔ p ∈ pss.flatten ∧ vld p.1 p.2 = true) ∧ S.Pairwise (fun p q => p.1 ≤ q.1) ∧ Below w.heap.size w w' ∧ n ≤ 274877906944 := by
  have HL : Hid (LL w vl ls pss) := h
  have HN : Hid (ls.length = L) := hL
  have HIN : Hid (∀ ps ∈ pss, ∀ p ∈ ps, InA p) := hin
  have hPL : pss.length = L := by rw [← h.len, hL]
  have HPL : Hid (pss.length = L) := hPL
  have HTOT : Hid (∀ xs : List (Int × Int), (∃ ys zs, pss.flatten = ys ++ zs ∧ xs = ys.filter V) → xs.length ≤ 274877906944) := fun xs ⟨ys, zs, e1, e2⟩ => by
    have h1 : xs.length ≤ ys.length := by rw [e2]; exact List.length_filter_le _ _
    have h2 : ys.length ≤ pss.flatten.length := by rw [e1, List.length_append]; omega
    omega
  have h63 := h.row.small
  rw [hL] at h63
  clear h hL hin hPL htot
  go_enter Tryd.func27, Tryd.ntmps27
  go_wp2_with fail
  go_loopw [3, 10] (fun ov iv wr => ∃ (i : Nat) (xs : List (Int × Int)), i ≤ L ∧ iv = .int .i64 (i : Int) ∧ xs = ((pss.take i).flatten).filter V ∧ OwnL E2 w.heap.size wr ov xs ∧ Below w.heap.size w wr) (fun _ i _ => L - (intOf i).toNat)
  case atStart => exact ⟨0, [], by omega, rfl, rfl, OwnL.nil _ _ _, Below.refl _ _⟩
  case round =>
    obtain ⟨i, xs, hi, rfl, hxs, how, hbl⟩ := hrel
    have HXS : Hid (xs = ((pss.take i).flatten).filter V) := hxs
    have HO : Hid (OwnL E2 w.heap.size wr u3 xs) := how
    have HB : Hid (Below w.heap.size w wr) := hbl
    clear hxs how hbl
    by_cases hlt : i < L
    · have hil : i < ls.length := by rw [HN.out]; exact hlt
      have hip : i < pss.length := by rw [HPL.out]; exact hlt
      obtain ⟨b, o, rfl, hbl, hc⟩ := (HL.out.row.bel HB.out).cells i hil
      have c0 : wr.cell? ⟨b, o + i, none⟩ = some (.slice ls[i].1 ls[i].2.1 ls[i].2.2) := by
        have h1 := hc 0 (by decide)
        simpa [EL] using h1
      have hea := HL.out.each i hil hip
      have HFS : Hid (((pss.take (i + 1)).flatten).filter V = xs ++ (pss[i]).filter V) := by show _ = _; rw [flat_snoc pss i hip, HXS.out]
      have HPI : Hid (∀ p ∈ pss[i], InA p) := HIN.out _ (List.getElem_mem hip)
      have HTI : Hid (∀ j, (xs ++ ((pss[i]).take j).filter V).length ≤ 274877906944) := fun j => by
        refine HTOT.out _ ⟨(pss.take i).flatten ++ (pss[i]).take j, (pss[i]).drop j ++ (pss.drop (i + 1)).flatten, ?_, by rw [List.filter_append, HXS.out]⟩
        have e1 : pss = pss.take i ++ (pss[i] :: pss.drop (i + 1)) := by rw [← List.drop_eq_getElem_cons hip, List.take_append_drop]
        have e2 : ∀ (a : List (List (Int × Int))) (b : List (Int × Int)) (c : List (List (Int × Int))), (a ++ (b :: c)).flatten = a.flatten ++ (b ++ c.flatten) := fun a b c => by simp
        rw [(congrArg List.flatten e1).trans (e2 _ _ _), List.append_assoc, ← List.append_assoc (List.take j pss[i]), List.take_append_drop]
      obtain ⟨⟨la, ln, lc⟩, hlp⟩ : ∃ l, ls[i] = l := ⟨_, rfl⟩
      obtain ⟨ps, hps⟩ : ∃ p, pss[i] = p := ⟨_, rfl⟩
      rw [hlp] at c0 hea
      rw [hps] at hea HFS HPI HTI
      dsimp only at c0 hea
      have HLP : Hid (Lst E2 w la ps) := hea.1
      have HNP : Hid (ps.length = ln) := hea.2
      have hln63 : ln ≤ 9223372036854775807 := by rw [← hea.2]; exact hea.1.small
      have hii : (i : Int) < L := by omega
      have ii0 : (0 : Int) ≤ i := by omega
      clear hc hlp hps hea
      go_wp2_with fail
      clear c0
      go_loopw [3, 16] (fun ov jv wr2 => ∃ (j : Nat) (zs : List (Int × Int)), j ≤ ln ∧ jv = .int .i64 (j : Int) ∧ zs = xs ++ (ps.take j).filter V ∧ OwnL E2 w.heap.size wr2 ov zs ∧ Below w.heap.size w wr2) (fun _ i _ => ln - (intOf i).toNat)
      case atStart => exact ⟨0, xs, by omega, rfl, by simp, HO.out, HB.out⟩
      case round =>
        obtain ⟨j, zs, hj, rfl, hzs, how, hbl2⟩ := hrel
        have HZS : Hid (zs = xs ++ (ps.take j).filter V) := hzs
        have HOZ : Hid (OwnL E2 w.heap.size wr u3 zs) := how
        have HBZ : Hid (Below w.heap.size w wr) := hbl2
        have hzl : zs.length ≤ 274877906944 := by rw [hzs]; exact HTI.out j
        clear hzs how hbl2
        by_cases hjl : j < ln
        · have hjp : j < ps.length := by rw [HNP.out]; exact hjl
          obtain ⟨b2, o2, rfl, hb2l, hc2⟩ := (HLP.out.bel HBZ.out).cells j hjp
          have c0 : wr.cell? ⟨b2, o2 + j * 2, none⟩ = some (.int .u32 ps[j].1) := hc2 0 (by decide)
          have c1 : wr.cell? ⟨b2, o2 + j * 2 + 1, none⟩ = some (.int .i64 ps[j].2) := hc2 1 (by decide)
          obtain ⟨p0, p1⟩ := HPI.out _ (List.getElem_mem hjp)
          have HFJ : Hid ((ps.take (j + 1)).filter V = (ps.take j).filter V ++ (if V ps[j] = true then [ps[j]] else [])) := filt_snoc ps j hjp
          obtain ⟨⟨pa, pn⟩, hpp⟩ : ∃ p, ps[j] = p := ⟨_, rfl⟩
          rw [hpp] at c0 c1 p0 p1 HFJ
          dsimp only at c0 c1 p0 p1
          have hjj : (j : Int) < ln := by omega
          have jj0 : (0 : Int) ≤ j := by omega
          obtain ⟨wA, hwA⟩ : ∃ wA, wr.alloc (Obj.cells #[.int .u32 pa, .int .i64 pn] 28) = wA := ⟨_, rfl⟩
          have hbA : Below wr.heap.size wr wA := by rw [← hwA]; exact (Below.refl _ wr).alloc (Nat.le_refl _) _
          obtain ⟨sb, hsb⟩ : ∃ s, wr.heap.size = s := ⟨_, rfl⟩
          have HGA : Hid (wA.heap[sb]? = some (Obj.cells #[.int .u32 pa, .int .i64 pn] 28)) := by rw [← hwA, ← hsb]; exact World.alloc_heap_new wr _
          have hsA : wA.heap.size = sb + 1 := by rw [← hwA, ← hsb]; simp
          have HOA : Hid (OwnL E2 w.heap.size wA u3 zs) := HOZ.out.bel hbA
          have HBA : Hid (Below w.heap.size w wA) := HBZ.out.trans (hbA.mono HBZ.out.size)
          obtain ⟨d0, d1⟩ := cell_two HGA.out
          clear hc2 hbA hpp
          cases hv : vld pa pn with
          | false =>
            have HE : Hid (zs = xs ++ (ps.take (j + 1)).filter V) := by
              show _ = _
              rw [HFJ.out, if_neg (by show ¬ vld pa pn = true; rw [hv]; decide), List.append_nil]
              exact HZS.out
            go_wp2_with fail
            refine (valid_no pa pn hv p0 p1 _).mono ?_
            rintro e w2 ⟨rfl, hb2⟩
            have HO2 : Hid (OwnL E2 w.heap.size w2 u3 zs) := HOA.out.bel hb2
            have HB2 : Hid (Below w.heap.size w w2) := HBA.out.trans (hb2.mono HBA.out.size)
            clear hb2
            go_wp2_with fail
            exact ⟨⟨j + 1, zs, by omega, by simp, HE.out, HO2.out, HB2.out⟩, by simp [intOf]; omega⟩
          | true =>
            have HE : Hid (zs ++ [(pa, pn)] = xs ++ (ps.take (j + 1)).filter V) := by
              show _ = _
              rw [HFJ.out, if_pos (show V (pa, pn) = true from hv), ← List.append_assoc, ← HZS.out]
            go_wp2_with fail
            refine (valid_yes pa pn hv p0 p1 _).mono ?_
            rintro e w2 ⟨rfl, hb2⟩
            have HO2 : Hid (OwnL E2 w.heap.size w2 u3 zs) := HOA.out.bel hb2
            have HB2 : Hid (Below w.heap.size w w2) := HBA.out.trans (hb2.mono HBA.out.size)
            have HG2 : Hid (w2.heap[sb]? = some (Obj.cells #[.int .u32 pa, .int .i64 pn] 28)) := (hb2.block sb (by omega)).trans HGA.out
            clear hb2 d0 d1 hwA
            obtain ⟨d0, d1⟩ := cell_two HG2.out
            obtain ⟨wC, hwC⟩ : ∃ wC, w2.alloc (Obj.cells #[.int .u32 pa, .int .i64 pn] 28) = wC := ⟨_, rfl⟩
            have HWC : Hid (w2.alloc (Obj.cells (E2.enc (pa, pn)).toArray E2.e) = wC) := hwC
            have hbC : Below w2.heap.size w2 wC := by rw [← hwC]; exact (Below.refl _ w2).alloc (Nat.le_refl _) _
            have HBC : Hid (Below w.heap.size w wC) := HB2.out.trans (hbC.mono HB2.out.size)
            have HOC : Hid (OwnL E2 w.heap.size wC u3 zs) := HO2.out.bel hbC
            have hmC : w.heap.size ≤ wC.heap.size := HBC.out.size
            have hbig : zs.length ≤ 1099511627775 := by omega
            clear hbC
            go_wp2_with (at_builtin; refine list_app1 E2 rfl _ _ 22 rfl rfl w.heap.size u3 zs (pa, pn) hbig (w := w2) wC rfl HOC.out rfl hmC HWC.out.symm ?_)
            intro v' w' ho hg hat
            have HO3 : Hid (OwnL E2 w.heap.size w' v' (zs ++ [(pa, pn)])) := ho.out
            have HB3 : Hid (Below w.heap.size w w') := HBC.out.trans ((Below.refl _ wC).grown hg.out hmC (fun g e => (HOC.out.row.lt g e).1))
            clear ho hg hat hwC HWC d0 d1
            go_wp2_with fail
            exact ⟨⟨j + 1, zs ++ [(pa, pn)], by omega, by simp, HE.out, HO3.out, HB3.out⟩, by simp [intOf]; omega⟩
        · obtain rfl : j = ln := by omega
          have HE : Hid (zs = ((pss.take (i + 1)).flatten).filter V) := by
            show _ = _
            rw [HFS.out, HZS.out, List.take_of_length_le (by rw [HNP.out]; omega)]
          go_wp2_with fail
          exact ⟨⟨i + 1, zs, by omega, by simp, HE.out, HOZ.out, HBZ.out⟩, by simp [intOf]; omega⟩
    · obtain rfl : i = L := by omega
      have HE : Hid (xs = pss.flatten.filter V) := by
        have h1 := HXS.out
        rw [List.take_of_length_le (by rw [HPL.out]; omega)] at h1
        exact h1
      have hxl : xs.length ≤ 274877906944 := HTOT.out xs ⟨pss.flatten, [], by simp, HE.out⟩
      have HMM : Hid (∀ S : List (Int × Int), S.Perm xs → ∀ p, p ∈ S ↔ p ∈ pss.flatten ∧ vld p.1 p.2 = true) := fun S hS p => by
        rw [hS.mem_iff, HE.out, List.mem_filter]
        rfl
      obtain ⟨a, c, hv, -, hnil, hsm⟩ := HO.out.form
      obtain ⟨n, hn⟩ : ∃ n, xs.length = n := ⟨_, rfl⟩
      rw [hn] at hv hnil hxl
      subst hv
      have HNX : Hid (xs.length = n) := hn
      clear HXS hn
      cases a with
      | none =>
        obtain ⟨rfl, rfl⟩ := hnil rfl
        have HX0 : Hid (xs = []) := List.length_eq_zero_iff.1 HNX.out
        have hcon := AnyF.slices_SortFunc_none Tryd.sortPf none 0 (.func (.func 23) #[] #[]) wr
        change Calls Tryd.prog 33 _ _ _ at hcon
        go_wp2_with fail
        refine hcon.mono ?_
        rintro e w2 ⟨rfl, hw2⟩
        rw [hw2]
        clear hw2 w2 hcon
        go_wp2_with fail
        go_ret
        exact ⟨none, 0, 0, [], rfl, rfl, ⟨by simp, fun i hi => absurd hi (by simp)⟩, HMM.out [] (by rw [HX0.out]), List.Pairwise.nil, HB.out, by omega⟩
      | some ad =>
        obtain ⟨g, o, sp⟩ := ad
        have hgf : o = 0 ∧ sp = none := by
          rcases HO.out.row.2 with ⟨h1, -⟩ | ⟨g', c', cur, h1, -⟩
          · cases h1
          · cases h1; exact ⟨rfl, rfl⟩
        obtain ⟨rfl, rfl⟩ := hgf
        obtain ⟨-, hg1, hg2⟩ := hsm g 0 rfl
        go_wp2_with fail
        refine (sort_any w.heap.size g n c xs wr HO.out (by omega)).mono ?_
        rintro e w2 ⟨rfl, S, hper, hpw, hlst, hgr⟩
        have HLS : Hid (Lst E2 w2 (some ⟨g, 0, none⟩) S) := hlst
        have HPW : Hid (S.Pairwise (fun p q => p.1 ≤ q.1)) := hpw
        have HPE : Hid (S.Perm xs) := hper
        have HB2 : Hid (Below w.heap.size w w2) := HB.out.trans ((Below.refl _ wr).grown hgr HB.out.size (fun g' e => by cases e; exact hg1))
        clear hlst hpw hper hgr
        go_wp2_with fail
        go_ret
        exact ⟨_, _, _, S, rfl, by rw [HPE.out.length_eq, HNX.out], HLS.out, HMM.out S HPE.out, HPW.out, HB2.out, by omega⟩
end Go.Proofs.YtagfdmkgnedlbabDoor.Pc
