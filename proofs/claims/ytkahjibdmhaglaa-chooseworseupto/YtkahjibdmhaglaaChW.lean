/- ChooseWorse: the law. -/
import Derived.Test.YtkahjibdmhaglaaChV
import Derived.Deep.CutBlock
namespace Go.Proofs.Ytkahjibdmhaglaa.Ch
open Go.ChangeShapes Go.WideShapes Go.ChangeAt Go.RowKit Go.Joins Go.Deep Go.Proofs.Ytkahjibdmhaglaa.Ge
set_option linter.unusedVariables false
set_option linter.unusedSimpArgs false

/-- the offer that is put in -/
structure CwI (w : World) (b5 : Nat) (xb : Of) (W : World) : Prop where
  bel : Below w.heap.size w W
  at_ : ∃ x s, SB OfK b5 (ofL x s) W ∧ Loses x xb ∧ Lst EI W s.p x.path
structure WoI (w W1 : World) (m : Nat) (iv : Value) (W : World) : Prop where
  at_ : ∃ i : Nat, i ≤ m ∧ iv = .int .i64 (i : Int)
  bel : Below W1.heap.size W1 W
theorem ofs_of {w : World} {la : Option Addr} {xs : List (Of × Oa)} {B : Nat} (h : Gm.Lst EO w la xs) (hok : ∀ q ∈ xs, OfOk w B q.1 q.2) : Ofs w.heap.size w la xs := ⟨fun W hW => ⟨h.bel hW, fun q hq => (hok q hq).kp.bel hW⟩⟩
theorem sI1 : ∀ W : World, (Go.sizeOf EI.t).run Try.prog W = .ok 1 W := fun W => by rfl
set_option maxRecDepth 100000 in
set_option maxHeartbeats 32000000 in
theorem worse_any (la : Option Addr) (n lc : Nat) (xs : List (Of × Oa)) (hxn : xs.length = n) (o : Of) (os : Oa) (how at_ : Int) (w : World) (hx : Gm.Lst EO w la xs) (hok : ∀ q ∈ xs, OfOk w 1048576 q.1 q.2) (hcap : n ≤ lc) (hoo : OfOk w 1048576 o os) (hh : -9223372036854775808 ≤ how ∧ how < 9223372036854775808) (ha : -9223372036854775808 ≤ at_ ∧ at_ < 9223372036854775808) :
    Calls Try.prog 5 #[.slice la n lc, .agg (ofL o os).toArray, .int .i64 how, .int .i64 at_] w fun e w' => e = .returned (.bool true) ∧ Below w.heap.size w w' := by
  have HX : Hid (Ofs w.heap.size w la xs) := ofs_of hx hok
  have HXL : Hid (Gm.Lst EO w la xs) := hx
  have HXN : Hid (xs.length = n) := hxn
  have HOK : Hid (∀ q ∈ xs, OfOk w 1048576 q.1 q.2) := hok
  have HOO : Hid (OfOk w 1048576 o os) := hoo
  have HCAP : Hid (n ≤ lc) := hcap
  have HH : Hid (-9223372036854775808 ≤ how ∧ how < 9223372036854775808) := hh
  have HA : Hid (-9223372036854775808 ≤ at_ ∧ at_ < 9223372036854775808) := ha
  have hsm : n ≤ 9223372036854775807 := by rw [← hxn]; exact hx.small
  clear hx hxn hok hoo hcap hh ha
  go_enter Try.func5, Try.ntmps5
  go_wp2_with (refine list_sbox OfK rfl _ rfl (cs := ofL o os) rfl ?_)
  intro W0 hx hb hz
  obtain ⟨b5, hb5⟩ : ∃ y, w.heap.size = y := ⟨_, rfl⟩
  have HBX : Hid (Bxs w [(OfK, b5, ofL o os)] W0) := (Bxs.nil w).new hb5 (by rw [← hb5]; exact hx.out) hb.out
  rw [hb5]
  clear hx hb hz hb5
  by_cases hn : 200 < n
  case pos =>
    have HE : Hid (Below w.heap.size w W0) := HBX.out.bel
    have hni : (200 : Int) < (n : Int) := by omega
    go_wp2_with fail
    go_ret
    exact ⟨rfl, HE.out⟩
  have hni : ¬ (200 : Int) < (n : Int) := by omega
  obtain ⟨z, hz⟩ : ∃ y, bsP (atO xs) (rchP (atO xs) n) = y := ⟨_, rfl⟩
  have HZ : Hid (bsP (atO xs) (rchP (atO xs) n) = z) := hz
  clear hz
  have HBEL0 : Hid (Below w.heap.size w W0) := HBX.out.bel
  go_wp2_with fail
  refine (best_any la n lc xs HXN.out (by omega) W0 ((HX.out.bel HBEL0.out).mono HBEL0.out.size) (bsI z) (by rw [HZ.out])).mono ?_
  rintro e W1 ⟨rfl, hb1⟩
  replace HBX : Hid (Bxs w [(OfK, b5, ofL o os)] W1) := HBX.out.step hb1
  clear hb1 HBEL0
  rcases z with _ | b
  case none =>
    have HE : Hid (Below w.heap.size w W1) := HBX.out.bel
    have hbi : bsI none = -1 := rfl
    rw [hbi]
    clear hbi
    go_wp2_with fail
    go_ret
    exact ⟨rfl, HE.out⟩
  have hbn : b < n := List.mem_range.1 (List.mem_filter.1 (bs_mem HZ.out)).1
  have hbi : bsI (some b) = (b : Int) := rfl
  rw [hbi]
  clear hbi
  have hbl : b < xs.length := by rw [HXN.out]; exact hbn
  have hb0 : ¬ (b : Int) < 0 := by omega
  have hb2 : ¬ (n : Int) ≤ (b : Int) := by omega
  have hb3 : (b : Int) < (n : Int) := by omega
  have hb4 : (0 : Int) ≤ (b : Int) := by omega
  obtain ⟨lb, lo, rfl, -⟩ := HX.out.at b hbl
  obtain ⟨xb, hxb⟩ : ∃ y, xs[b].1 = y := ⟨_, rfl⟩
  obtain ⟨sb, hsb⟩ : ∃ y, xs[b].2 = y := ⟨_, rfl⟩
  have HXB : Hid (OfOk w 1048576 xb sb ∧ atO xs b = xb) := by
    have h5 := HOK.out xs[b] (List.getElem_mem hbl)
    rw [hxb, hsb] at h5
    exact ⟨h5, by rw [atO_is hbl, hxb]⟩
  have HXA : Hid (OfAt W1 lb (lo + b * 13) xb sb) := by
    obtain ⟨b', o', e, h5⟩ := (HX.out.bel HBX.out.bel).at b hbl
    cases e
    rw [hxb, hsb] at h5
    exact h5
  clear hxb hsb
  go_wp2_with (first | (refine list_sat RtK rfl _ rfl (b := lb) (k := lo + b * 13) (cs := rtL xb sb) rfl (rtL_at HXA.out) rfl ?_) | (refine list_rnew rfl rfl ?_))
  intro b10 W2 hbe hx hb
  replace HBX : Hid (Bxs w [(OfK, b5, ofL o os), (RtK, b10, rt0)] W2) := HBX.out.new hbe.out hx.out hb.out
  clear hbe hx hb HXA
  go_wp2_with (refine bx_st HBX.out 1 rfl rfl _ _ rfl rfl (rtL xb sb) rfl rfl rfl rfl ?_)
  intro W3 hx hk
  replace HBX : Hid (Bxs w [(OfK, b5, ofL o os), (RtK, b10, rtL xb sb)] W3) := hx.out
  clear hx hk
  obtain ⟨hm, hhm⟩ : ∃ y, md how 3 = y := ⟨_, rfl⟩
  have hm3 : hm < 3 := by rw [← hhm]; exact md_lt (by decide)
  go_wp2_with fail
  refine (mod_any how HH.out 3 (by decide) (by decide) hm hhm W3).mono ?_
  rintro e W4 ⟨rfl, hw4⟩
  rw [hw4]
  clear hw4 W4 hhm
  obtain ⟨xp, hxp⟩ : ∃ y, xb.pref = y := ⟨_, rfl⟩
  obtain ⟨xo, hxo⟩ : ∃ y, xb.org = y := ⟨_, rfl⟩
  obtain ⟨xl, hxl⟩ : ∃ y, xb.path.length = y := ⟨_, rfl⟩
  obtain ⟨xa, hxa⟩ : ∃ y, sb.p = y := ⟨_, rfl⟩
  obtain ⟨xc, hxc⟩ : ∃ y, sb.pc = y := ⟨_, rfl⟩
  have HXV : Hid (xb.pref = xp ∧ xb.org = xo ∧ xb.path.length = xl ∧ sb.p = xa ∧ sb.pc = xc) := ⟨hxp, hxo, hxl, hxa, hxc⟩
  have c10p : W3.cell? ⟨b10, 4, none⟩ = some (.int .i64 xp) := by rw [← hxp]; exact (HBX.out.get 1 rfl).cell 4
  have c10o : W3.cell? ⟨b10, 3, none⟩ = some (.int .i64 xo) := by rw [← hxo]; exact (HBX.out.get 1 rfl).cell 3
  have c10l : W3.cell? ⟨b10, 2, none⟩ = some (.slice xa xl xc) := by rw [← hxl, ← hxa, ← hxc]; exact (HBX.out.get 1 rfl).cell 2
  have hxpr : -9223372036854775808 ≤ xp ∧ xp < 9223372036854775808 := by rw [← hxp]; exact HXB.out.1.pref
  have hxor : -9223372036854775808 ≤ xo ∧ xo < 9223372036854775808 := by rw [← hxo]; exact HXB.out.1.org
  have hxlr : xl ≤ 1048576 := by rw [← hxl]; exact HXB.out.1.bp
  clear hxp hxo hxl hxa hxc
  go_upto_block 0 with fail
  go_cut [35] from 36 to 142 (fun _ wx => CwI w b5 xb wx)
  case first =>
    have hc : hm = 0 ∨ hm = 1 ∨ hm = 2 := by omega
    rcases hc with rfl | rfl | rfl
    case inl =>
      by_cases hpm : xp = -9223372036854775808
      case pos =>
        have HE : Hid (Below w.heap.size w W3) := HBX.out.bel
        have hpb : (xp == -9223372036854775808) = true := by simpa using hpm
        clear hpm
        go_wp2_with fail
        go_ret
        exact ⟨rfl, HE.out⟩
      have hpb : (xp == -9223372036854775808) = false := by simpa using hpm
      go_wp2_with (refine bx_pI HBX.out 0 4 rfl _ _ rfl rfl rfl rfl rfl ?_)
      intro W5 hx hk
      have HE : Hid (CwI w b5 xb W5) := by
        refine ⟨hx.out.bel, { o with pref := xp - 1 }, os, hx.out.get 0 rfl, ⟨.inl ?_⟩, HOO.out.kp.bel hx.out.bel⟩
        show xp - 1 < xb.pref
        rw [HXV.out.1]
        omega
      clear hx hk
      go_wp2_with fail
      go_meet
      exact HE.out
    case inr.inl =>
      go_wp2_with (refine bx_pI HBX.out 0 4 rfl _ _ rfl rfl rfl rfl rfl ?_)
      intro W5 hx hk
      replace HBX : Hid (Bxs w [(OfK, b5, (ofL o os).set 4 (.int .i64 xp)), (RtK, b10, rtL xb sb)] W5) := hx.out
      have d10l : W5.cell? ⟨b10, 2, none⟩ = some (.slice xa xl xc) := by have h5 := (HBX.out.get 1 rfl).cell 2; rw [h5]; show some (Value.slice sb.p xb.path.length sb.pc) = _; rw [HXV.out.2.2.1, HXV.out.2.2.2.1, HXV.out.2.2.2.2]
      have HSRC : Hid (Lst EI w xa xb.path ∧ (xa = none → xl = 0 ∧ xc = 0) ∧ xb.path.length = xl) := by
        have h5 := HXB.out.1
        refine ⟨?_, ?_, HXV.out.2.2.1⟩
        · have h6 := h5.kp; rw [HXV.out.2.2.2.1] at h6; exact h6
        · have h6 := h5.np; rw [HXV.out.2.2.2.1, HXV.out.2.2.2.2, HXV.out.2.2.1] at h6; exact h6
      clear hx hk c10p c10o c10l
      have HM0 := own_made0 (W := W5) EI rfl
      have HM1 : Hid (OwnL EI W5.heap.size (W5.alloc (Obj.cells #[] 3)) (.slice (some ⟨W5.heap.size, 0, none⟩) 0 0) [] ∧ Below W5.heap.size W5 (W5.alloc (Obj.cells #[] 3))) := HM0
      clear HM0
      have e10l : (W5.alloc (Obj.cells #[] 3)).cell? ⟨b10, 2, none⟩ = some (.slice xa xl xc) := by rw [← d10l]; exact World.cell?_of_block (w := W5) (HM1.out.2.block b10 (HBX.out.get 1 rfl).lt)
      go_wp2_with (at_builtin; refine list_appL EI rfl _ _ 24 rfl rfl W5.heap.size (.slice (some ⟨W5.heap.size, 0, none⟩) 0 0) [] xb.path xa xl xc (W5.alloc (Obj.cells #[] 3)) (by simp; omega) rfl HM1.out.1 rfl (HSRC.out.1.bel (HBX.out.bel.trans (HM1.out.2.mono HBX.out.bel.size))) HSRC.out.2.1 HSRC.out.2.2 HM1.out.2.size ?_)
      intro v6 W6 ho6 hg6 ha6
      have HOB : Hid (OB EI w.heap.size [b5, b10] W6 v6 xb.path) := by
        have h5 : OB EI w.heap.size [b5, b10] (W5.alloc (Obj.cells #[] 3)) (.slice (some ⟨W5.heap.size, 0, none⟩) 0 0) [] := ⟨HM1.out.1.mono HBX.out.bel.size, fun g e => by
          have e2 : W5.heap.size = g := Option.some.inj e
          intro hm
          have := HBX.out.lts _ hm
          omega⟩
        exact h5.app (ho6.out.mono HBX.out.bel.size) (ha6.out.imp id (fun h => h.trans (by simp))) (fun b hb => Nat.lt_of_lt_of_le (HBX.out.lts b hb) HM1.out.2.size)
      replace HBX : Hid (Bxs w [(OfK, b5, (ofL o os).set 4 (.int .i64 xp)), (RtK, b10, rtL xb sb)] W6) := (HBX.out.step HM1.out.2).grown hg6.out (fun g e => by
        have e2 : W5.heap.size = g := Option.some.inj e
        exact ⟨by have := HBX.out.bel.size; omega, fun hm => by have := HBX.out.lts _ hm; omega⟩)
      clear ho6 hg6 ha6 HM1 d10l e10l
      have HA7 : Hid (Below W6.heap.size W6 (W6.alloc (Obj.cells (EI.enc 7).toArray 3))) := (Below.refl _ W6).alloc (Nat.le_refl _) _
      go_wp2_with (at_builtin; refine list_app1 EI rfl _ _ 24 rfl rfl w.heap.size v6 xb.path 7 (by rw [HSRC.out.2.2]; omega) (w := W6) (W6.alloc (Obj.cells (EI.enc 7).toArray 3)) rfl (HOB.out.own.bel HA7.out) rfl (Nat.le_trans HBX.out.bel.size HA7.out.size) rfl ?_)
      intro v8 W8 ho8 hg8 ha8
      have HOB8 : Hid (OB EI w.heap.size [b5, b10] W8 v8 (xb.path ++ [7])) := (HOB.out.bel HA7.out).app ho8.out (ha8.out.imp id (fun h => h.trans (by simp))) (fun b hb => Nat.lt_of_lt_of_le (HBX.out.lts b hb) HA7.out.size)
      replace HBX : Hid (Bxs w [(OfK, b5, (ofL o os).set 4 (.int .i64 xp)), (RtK, b10, rtL xb sb)] W8) := (HBX.out.step HA7.out).grown hg8.out HOB.out.for
      clear ho8 hg8 ha8 HA7 HOB
      obtain ⟨va, vc, rfl, -⟩ := HOB8.out.own.form
      go_wp2_with (refine bx_pS EI sI1 HBX.out 0 2 rfl _ _ rfl rfl rfl rfl rfl ?_)
      intro W9 hx hk
      have HE : Hid (CwI w b5 xb W9) := by
        refine ⟨hx.out.bel, { o with pref := xp, path := xb.path ++ [7] }, { os with p := va, pc := vc }, ?_, ⟨.inr (.inl ⟨HXV.out.1.symm, ?_⟩)⟩, ?_⟩
        · have h5 := hx.out.get 0 rfl
          have e5 : (xb.path ++ [7]).length = xb.path.length + 1 := by simp
          first | exact h5 | (rw [← e5] at h5; exact h5)
        · show xb.path.length < (xb.path ++ [7]).length
          simp
        · have h5 := (HOB8.out.ko hk.out (by simp)).own
          exact h5.lst.1
      clear hx hk
      go_wp2_with fail
      go_meet
      exact HE.out
    case inr.inr =>
      by_cases hom : xo = 9223372036854775807
      case pos =>
        have HE : Hid (Below w.heap.size w W3) := HBX.out.bel
        have hob : (xo == 9223372036854775807) = true := by simpa using hom
        clear hom
        go_wp2_with fail
        go_ret
        exact ⟨rfl, HE.out⟩
      have hob : (xo == 9223372036854775807) = false := by simpa using hom
      have HS0 : Hid (SB RtK b10 (rtL xb sb) W3.drew) := HBX.out.get 1 rfl
      replace HBX : Hid (Bxs w [(OfK, b5, ofL o os), (RtK, b10, rtL xb sb)] W3.drew) := HBX.out.step (drew_bel W3)
      have hxo1 : IntKind.i64.wrap (xo + 1) = xo + 1 := IntWalk.i64_in _ (by omega)
      go_wp2_with fail
      refine wp_region_held_drew (S := fun W => SB RtK b10 (rtL xb sb) W) (by kernel_rfl) HS0.out (fun hHeld => ?_)
      obtain ⟨W5, hw5⟩ : ∃ y, W3.drew = y := ⟨_, rfl⟩
      rw [hw5] at HBX hHeld ⊢
      clear hw5 HS0 c10p c10o c10l hom
      refine wpAnyH_take (i := 0) (v := .pointer (some ⟨b10, 4, none⟩)) rfl (by kernel_rfl) (by kernel_rfl) (by kernel_rfl) (fun _ _ _ h => h) (Or.inl ⟨by rfl, ?_⟩) (by assumption) ?_
      case refine_1 => intro W hSw; go_simp; try rfl
      try simp only [Act.put, List.getElem_toArray, List.getElem_cons_zero, List.getElem_cons_succ, List.setIfInBounds_toArray, List.set_cons_zero, List.set_cons_succ]
      refine wpAnyH_take (i := 1) (v := .int .i64 xp) rfl (by kernel_rfl) (by kernel_rfl) (by kernel_rfl) (fun _ _ _ h => h) (Or.inl ⟨by rfl, ?_⟩) (by assumption) ?_
      case refine_1 => intro W hSw; have k2 : W.cell? ⟨b10, 2, none⟩ = some (.slice xa xl xc) := by { have h5 := hSw.cell 2; rw [h5]; show some (Value.slice sb.p xb.path.length sb.pc) = _; rw [HXV.out.2.2.1, HXV.out.2.2.2.1, HXV.out.2.2.2.2] }; have k3 : W.cell? ⟨b10, 3, none⟩ = some (.int .i64 xo) := by { have h5 := hSw.cell 3; rw [h5]; show some (Value.int .i64 xb.org) = _; rw [HXV.out.2.1] }; have k4 : W.cell? ⟨b10, 4, none⟩ = some (.int .i64 xp) := by { have h5 := hSw.cell 4; rw [h5]; show some (Value.int .i64 xb.pref) = _; rw [HXV.out.1] }; go_simp; try rfl
      try simp only [Act.put, List.getElem_toArray, List.getElem_cons_zero, List.getElem_cons_succ, List.setIfInBounds_toArray, List.set_cons_zero, List.set_cons_succ]
      refine wpAnyH_take (i := 2) (v := .pointer (some ⟨b10, 2, none⟩)) rfl (by kernel_rfl) (by kernel_rfl) (by kernel_rfl) (fun _ _ _ h => h) (Or.inl ⟨by rfl, ?_⟩) (by assumption) ?_
      case refine_1 => intro W hSw; go_simp; try rfl
      try simp only [Act.put, List.getElem_toArray, List.getElem_cons_zero, List.getElem_cons_succ, List.setIfInBounds_toArray, List.set_cons_zero, List.set_cons_succ]
      refine wpAnyH_take (i := 3) (v := .slice xa xl xc) rfl (by kernel_rfl) (by kernel_rfl) (by kernel_rfl) (fun _ _ _ h => h) (Or.inl ⟨by rfl, ?_⟩) (by assumption) ?_
      case refine_1 => intro W hSw; have k2 : W.cell? ⟨b10, 2, none⟩ = some (.slice xa xl xc) := by { have h5 := hSw.cell 2; rw [h5]; show some (Value.slice sb.p xb.path.length sb.pc) = _; rw [HXV.out.2.2.1, HXV.out.2.2.2.1, HXV.out.2.2.2.2] }; have k3 : W.cell? ⟨b10, 3, none⟩ = some (.int .i64 xo) := by { have h5 := hSw.cell 3; rw [h5]; show some (Value.int .i64 xb.org) = _; rw [HXV.out.2.1] }; have k4 : W.cell? ⟨b10, 4, none⟩ = some (.int .i64 xp) := by { have h5 := hSw.cell 4; rw [h5]; show some (Value.int .i64 xb.pref) = _; rw [HXV.out.1] }; go_simp; try rfl
      try simp only [Act.put, List.getElem_toArray, List.getElem_cons_zero, List.getElem_cons_succ, List.setIfInBounds_toArray, List.set_cons_zero, List.set_cons_succ]
      refine wpAnyH_take (i := 4) (v := .pointer (some ⟨b10, 3, none⟩)) rfl (by kernel_rfl) (by kernel_rfl) (by kernel_rfl) (fun _ _ _ h => h) (Or.inl ⟨by rfl, ?_⟩) (by assumption) ?_
      case refine_1 => intro W hSw; go_simp; try rfl
      try simp only [Act.put, List.getElem_toArray, List.getElem_cons_zero, List.getElem_cons_succ, List.setIfInBounds_toArray, List.set_cons_zero, List.set_cons_succ]
      refine wpAnyH_take (i := 5) (v := .int .i64 xo) rfl (by kernel_rfl) (by kernel_rfl) (by kernel_rfl) (fun _ _ _ h => h) (Or.inl ⟨by rfl, ?_⟩) (by assumption) ?_
      case refine_1 => intro W hSw; have k2 : W.cell? ⟨b10, 2, none⟩ = some (.slice xa xl xc) := by { have h5 := hSw.cell 2; rw [h5]; show some (Value.slice sb.p xb.path.length sb.pc) = _; rw [HXV.out.2.2.1, HXV.out.2.2.2.1, HXV.out.2.2.2.2] }; have k3 : W.cell? ⟨b10, 3, none⟩ = some (.int .i64 xo) := by { have h5 := hSw.cell 3; rw [h5]; show some (Value.int .i64 xb.org) = _; rw [HXV.out.2.1] }; have k4 : W.cell? ⟨b10, 4, none⟩ = some (.int .i64 xp) := by { have h5 := hSw.cell 4; rw [h5]; show some (Value.int .i64 xb.pref) = _; rw [HXV.out.1] }; go_simp; try rfl
      try simp only [Act.put, List.getElem_toArray, List.getElem_cons_zero, List.getElem_cons_succ, List.setIfInBounds_toArray, List.set_cons_zero, List.set_cons_succ]
      refine wpAnyH_take (i := 6) (v := .int .i64 (xo + 1)) rfl (by kernel_rfl) (by kernel_rfl) (by kernel_rfl) (fun _ _ _ h => h) (Or.inl ⟨by rfl, ?_⟩) (by assumption) ?_
      case refine_1 => intro W hSw; go_simp; try rfl
      try simp only [Act.put, List.getElem_toArray, List.getElem_cons_zero, List.getElem_cons_succ, List.setIfInBounds_toArray, List.set_cons_zero, List.set_cons_succ]
      refine wpAnyH_take (i := 7) (v := .pointer (some ⟨b5, 0, none⟩)) rfl (by kernel_rfl) (by kernel_rfl) (by kernel_rfl) (fun _ _ _ h => h) (Or.inl ⟨by rfl, ?_⟩) (by assumption) ?_
      case refine_1 => intro W hSw; go_simp; try rfl
      try simp only [Act.put, List.getElem_toArray, List.getElem_cons_zero, List.getElem_cons_succ, List.setIfInBounds_toArray, List.set_cons_zero, List.set_cons_succ]
      refine wpAnyH_take (i := 8) (v := .pointer (some ⟨b5, 4, none⟩)) rfl (by kernel_rfl) (by kernel_rfl) (by kernel_rfl) (fun _ _ _ h => h) (Or.inl ⟨by rfl, ?_⟩) (by assumption) ?_
      case refine_1 => intro W hSw; go_simp; try rfl
      try simp only [Act.put, List.getElem_toArray, List.getElem_cons_zero, List.getElem_cons_succ, List.setIfInBounds_toArray, List.set_cons_zero, List.set_cons_succ]
      refine wpAnyH_ready (rs := [9]) (by kernel_rfl) (by simp) ?_
      refine AllReadyH.cons rfl (fun K hK => ?_) AllReadyH.nil
      refine step_runs rfl (putI_run (.tmp 72) (.tmp 65) rfl (b := b5) (k := 4) rfl rfl ((HBX.out.get 0 rfl).cell 4) ((HBX.out.get 0 rfl).fro 4)) ?_
      have HBN := HBX.out.fld 0 4 (.int .i64 xp) rfl rfl
      refine hK.out _ _ (HBN.get 1 rfl) (fun hHeld => ?_)
      replace HBX := HBN
      clear hK K HBN
      obtain ⟨W6, hwn⟩ : ∃ y, World.setCell W5 ⟨b5, 4, none⟩ (.int .i64 xp) = y := ⟨_, rfl⟩
      rw [hwn] at HBX hHeld ⊢
      clear hwn
      replace HBX : Hid _ := HBX
      try simp only [Act.put, List.getElem_toArray, List.getElem_cons_zero, List.getElem_cons_succ, List.setIfInBounds_toArray, List.set_cons_zero, List.set_cons_succ]
      refine wpAnyH_take (i := 10) (v := .pointer (some ⟨b5, 0, none⟩)) rfl (by kernel_rfl) (by kernel_rfl) (by kernel_rfl) (fun _ _ _ h => h) (Or.inl ⟨by rfl, ?_⟩) (by assumption) ?_
      case refine_1 => intro W hSw; go_simp; try rfl
      try simp only [Act.put, List.getElem_toArray, List.getElem_cons_zero, List.getElem_cons_succ, List.setIfInBounds_toArray, List.set_cons_zero, List.set_cons_succ]
      refine wpAnyH_take (i := 11) (v := .pointer (some ⟨b5, 2, none⟩)) rfl (by kernel_rfl) (by kernel_rfl) (by kernel_rfl) (fun _ _ _ h => h) (Or.inl ⟨by rfl, ?_⟩) (by assumption) ?_
      case refine_1 => intro W hSw; go_simp; try rfl
      try simp only [Act.put, List.getElem_toArray, List.getElem_cons_zero, List.getElem_cons_succ, List.setIfInBounds_toArray, List.set_cons_zero, List.set_cons_succ]
      refine wpAnyH_ready (rs := [12]) (by kernel_rfl) (by simp) ?_
      refine AllReadyH.cons rfl (fun K hK => ?_) AllReadyH.nil
      refine step_runs rfl (putS_run EI sI1 (.tmp 74) (.tmp 67) rfl (b := b5) (k := 2) rfl rfl ((HBX.out.get 0 rfl).cell 2) ((HBX.out.get 0 rfl).fro 2)) ?_
      have HBN := HBX.out.fld 0 2 (.slice xa xl xc) rfl rfl
      refine hK.out _ _ (HBN.get 1 rfl) (fun hHeld => ?_)
      replace HBX := HBN
      clear hK K HBN
      obtain ⟨W7, hwn⟩ : ∃ y, World.setCell W6 ⟨b5, 2, none⟩ (.slice xa xl xc) = y := ⟨_, rfl⟩
      rw [hwn] at HBX hHeld ⊢
      clear hwn
      replace HBX : Hid _ := HBX
      try simp only [Act.put, List.getElem_toArray, List.getElem_cons_zero, List.getElem_cons_succ, List.setIfInBounds_toArray, List.set_cons_zero, List.set_cons_succ]
      refine wpAnyH_take (i := 13) (v := .pointer (some ⟨b5, 0, none⟩)) rfl (by kernel_rfl) (by kernel_rfl) (by kernel_rfl) (fun _ _ _ h => h) (Or.inl ⟨by rfl, ?_⟩) (by assumption) ?_
      case refine_1 => intro W hSw; go_simp; try rfl
      try simp only [Act.put, List.getElem_toArray, List.getElem_cons_zero, List.getElem_cons_succ, List.setIfInBounds_toArray, List.set_cons_zero, List.set_cons_succ]
      refine wpAnyH_take (i := 14) (v := .pointer (some ⟨b5, 3, none⟩)) rfl (by kernel_rfl) (by kernel_rfl) (by kernel_rfl) (fun _ _ _ h => h) (Or.inl ⟨by rfl, ?_⟩) (by assumption) ?_
      case refine_1 => intro W hSw; go_simp; try rfl
      try simp only [Act.put, List.getElem_toArray, List.getElem_cons_zero, List.getElem_cons_succ, List.setIfInBounds_toArray, List.set_cons_zero, List.set_cons_succ]
      refine wpAnyH_ready (rs := [15]) (by kernel_rfl) (by simp) ?_
      refine AllReadyH.cons rfl (fun K hK => ?_) AllReadyH.nil
      refine step_runs rfl (putI_run (.tmp 76) (.tmp 70) rfl (b := b5) (k := 3) rfl rfl ((HBX.out.get 0 rfl).cell 3) ((HBX.out.get 0 rfl).fro 3)) ?_
      have HBN := HBX.out.fld 0 3 (.int .i64 (xo + 1)) rfl rfl
      refine hK.out _ _ (HBN.get 1 rfl) (fun hHeld => ?_)
      replace HBX := HBN
      clear hK K HBN
      obtain ⟨W8, hwn⟩ : ∃ y, World.setCell W7 ⟨b5, 3, none⟩ (.int .i64 (xo + 1)) = y := ⟨_, rfl⟩
      rw [hwn] at HBX hHeld ⊢
      clear hwn
      replace HBX : Hid _ := HBX
      try simp only [Act.put, List.getElem_toArray, List.getElem_cons_zero, List.getElem_cons_succ, List.setIfInBounds_toArray, List.set_cons_zero, List.set_cons_succ]
      have HE : Hid (CwI w b5 xb W8) := by
        refine ⟨HBX.out.bel, { o with pref := xp, path := xb.path, org := xo + 1 }, { os with p := xa, pc := xc }, ?_, ⟨.inr (.inr ⟨HXV.out.1.symm, rfl, ?_⟩)⟩, ?_⟩
        · have h5 := HBX.out.get 0 rfl
          rw [← HXV.out.2.2.1] at h5
          exact h5
        · show xb.org < xo + 1
          rw [HXV.out.2.1]
          omega
        · have h5 := HXB.out.1.kp
          rw [HXV.out.2.2.2.1] at h5
          exact h5.bel HBX.out.bel
      refine wpAnyH_done (by kernel_rfl) ?_ _
      clear hHeld
      go_wp2_with fail
      go_meet
      exact HE.out
  case rest =>
  have HCW : Hid (CwI w b5 xb wc) := hcut
  obtain ⟨W5, hW5⟩ : ∃ y, wc = y := ⟨_, rfl⟩
  rw [hW5] at HCW ⊢
  clear hcut hW5 HBX c10p c10o c10l hxpr hxor hxlr HXV
  obtain ⟨k, hk⟩ : ∃ y, md at_ (n + 1) = y := ⟨_, rfl⟩
  have hkn : k ≤ n := by have := md_lt (c := at_) (n := n + 1) (by omega); omega
  have HMD := mod_any at_ HA.out (n + 1) (by omega) (by omega) k hk W5
  clear hk
  have hn1 : ((n + 1 : Nat) : Int) = (n : Int) + 1 := by omega
  rw [hn1] at HMD
  clear hn1
  go_wp2_with fail
  refine HMD.mono ?_
  rintro e W6 ⟨rfl, hw6⟩
  rw [hw6]
  clear hw6 W6 HMD
  have hkl : k ≤ lc := Nat.le_trans hkn HCAP.out
  have HL5 : Hid (Gm.Lst EO W5 (some ⟨lb, lo, none⟩) xs) := HXL.out.bel HCW.out.bel
  go_wp2_with (first | (refine list_ohi rfl _ _ rfl rfl rfl hkl ?_) | (at_builtin; refine Gm.list_appL EO rfl _ _ 22 rfl rfl w.heap.size (.slice none 0 0) [] (xs.take k) (some ⟨lb, lo, none⟩) k lc W5 (by simp; omega) rfl (Gm.OwnL.nil _ _ _) rfl (HL5.out.take k) (fun c => by cases c) (by rw [List.length_take, HXN.out]; omega) HCW.out.bel.size ?_))
  intro v6 W6 ho6 hg6 ha6
  obtain ⟨x, s, hsb, hlo, hpa⟩ := HCW.out.at_
  have HB6 : Hid (Below W5.heap.size W5 W6) := ⟨hg6.out.os, hg6.out.tape, hg6.out.output, hg6.out.size, fun g hg => hg6.out.block g hg (fun c => by cases c)⟩
  have HBW : Hid (Below w.heap.size w W6) := HCW.out.bel.trans (HB6.out.mono HCW.out.bel.size)
  have HO6 : Hid (Gm.OwnL EO W5.heap.size W6 v6 (xs.take k)) := by
    have h5 := ho6.out
    refine ⟨h5.row.1, ?_⟩
    rcases h5.row.2 with h1 | ⟨g, c, cur, h1, h2, h3, h4⟩
    · exact .inl h1
    · refine .inr ⟨g, c, cur, h1, ?_, h3, h4⟩
      rcases ha6.out with c2 | c2
      · rw [h1] at c2; cases c2
      · rw [h1] at c2; cases c2; exact Nat.le_refl _
  have HSB : Hid (SB OfK b5 (ofL x s) W6) := hsb.blk (HB6.out.block _ hsb.lt)
  have HB5 : Hid (b5 < W5.heap.size) := hsb.lt
  have HLO : Hid (Loses x xb) := hlo
  have HPA : Hid (Lst EI W6 s.p x.path) := hpa.bel HB6.out
  have HBX6 : Hid (Below W5.heap.size W5 W6) := HB6.out
  have HPA5 : Hid (Lst EI W5 s.p x.path) := hpa
  have HCB : Hid (Below w.heap.size w W5) := HCW.out.bel
  clear hsb hlo hpa ho6 hg6 ha6 HCW HB6
  have HTL : Hid ((xs.take k).length = k) := by show _ = _; rw [List.length_take, HXN.out]; omega
  have HA7 : Hid (Below W6.heap.size W6 (W6.alloc (Obj.cells (EO.enc (x, s)).toArray 35))) := (Below.refl _ W6).alloc (Nat.le_refl _) _
  have HS7 : Hid (W5.heap.size ≤ (W6.alloc (Obj.cells (EO.enc (x, s)).toArray 35)).heap.size) := Nat.le_trans HBX6.out.size HA7.out.size
  go_wp2_with (first | (refine list_sload OfK rfl _ rfl (b := b5) (cs := ofL x s) rfl HSB.out rfl ?_) | (refine list_obuild rfl _ rfl x s rfl ?_) | (at_builtin; refine Gm.list_app1 EO rfl _ _ 22 rfl rfl W5.heap.size v6 (xs.take k) (x, s) (by rw [HTL.out]; omega) (w := W6) (W6.alloc (Obj.cells (EO.enc (x, s)).toArray 35)) rfl (HO6.out.bel HA7.out) rfl HS7.out rfl ?_))
  intro v7 W7 ho7 hg7 ha7
  have HO7 : Hid (Gm.OwnL EO W5.heap.size W7 v7 (xs.take k ++ [(x, s)])) := ho7.out
  have HB7 : Hid (Below W5.heap.size W5 W7) := (HBX6.out.trans (HA7.out.mono HBX6.out.size)).grown hg7.out HS7.out (fun g e => (HO6.out.row.lt g e).1)
  have HPA7 : Hid (Lst EI W7 s.p x.path) := HPA5.out.bel HB7.out
  clear ho7 hg7 ha7 HA7 HS7 HO6 HSB HPA HBX6 HBW
  have HT7 : Hid ((xs.take k ++ [(x, s)]).length = k + 1) := by show _ = _; rw [List.length_append, HTL.out]; rfl
  have HL7 : Hid (Gm.Lst EO W7 (some ⟨lb, lo, none⟩) xs) := HL5.out.bel HB7.out
  have HSD : Hid (W5.heap.size ≤ W7.heap.size) := HB7.out.size
  go_wp2_with (refine list_olo rfl _ _ rfl rfl rfl hkn HCAP.out ?_)
  intro vd hvd hvn
  have HLD : Hid (Gm.Lst EO W7 vd (xs.drop k)) := by
    by_cases hck : lc = k
    · have h5 : xs.drop k = [] := List.drop_of_length_le (by have := HXN.out; have := HCAP.out; omega)
      rw [h5]
      exact ⟨by simp, fun i hi => absurd hi (by simp)⟩
    · have h5 := HL7.out.drop k
      rw [hvd.out hck]
      exact h5
  have HDL : Hid ((xs.drop k).length = n - k) := by show _ = _; rw [List.length_drop, HXN.out]
  have HVN : Hid (vd = none → n - k = 0 ∧ lc - k = 0) := fun c => absurd c hvn.out
  clear hvd hvn
  go_wp2_with (at_builtin; refine Gm.list_appL EO rfl _ _ 22 rfl rfl W5.heap.size v7 (xs.take k ++ [(x, s)]) (xs.drop k) vd (n - k) (lc - k) W7 (by rw [HT7.out]; omega) rfl HO7.out rfl HLD.out HVN.out HDL.out HSD.out ?_)
  intro v8 W8 ho8 hg8 ha8
  obtain ⟨ms, hms⟩ : ∃ y, xs.take k ++ [(x, s)] ++ xs.drop k = y := ⟨_, rfl⟩
  have HMS : Hid (insO xs k (x, s) = ms) := hms
  have HB8 : Hid (Below W5.heap.size W5 W8) := HB7.out.grown hg8.out HSD.out (fun g e => (HO7.out.row.lt g e).1)
  have HO8 : Hid (Gm.OwnL EO W5.heap.size W8 v8 ms) := by
    have h5 := ho8.out
    show Gm.OwnL EO W5.heap.size W8 v8 ms
    first | (rw [hms] at h5; exact h5) | (rw [← hms]; simpa using h5)
  have HML : Hid (ms.length = n + 1) := by
    show _ = _
    rw [← hms, List.length_append, HT7.out, HDL.out]
    omega
  have HBW8 : Hid (Below w.heap.size w W8) := HCB.out.trans (HB8.out.mono HCB.out.size)
  have HPM : Hid (∀ q ∈ ms, Lst EI W8 q.2.p q.1.path) := fun q hq => by
    rw [← hms] at hq
    have h6 : q ∈ xs ∨ q = (x, s) := by
      rcases List.mem_append.1 hq with h | h
      · rcases List.mem_append.1 h with h | h
        · exact .inl (List.mem_of_mem_take h)
        · exact .inr (List.mem_singleton.1 h)
      · exact .inl (List.mem_of_mem_drop h)
    rcases h6 with h | h
    · exact (HOK.out q h).kp.bel HBW8.out
    · rw [h]; exact HPA5.out.bel HB8.out
  clear ho8 hg8 ha8 hms HO7 HB7 HPA7 HL7 HSD HLD HDL HVN HT7 HTL HL5
  obtain ⟨va, vc, rfl, hvc, -⟩ := HO8.out.form
  rw [HML.out] at HO8 ⊢
  have HXM : Hid (Ofs W8.heap.size W8 va ms) := ⟨fun W hW => ⟨HO8.out.lst.1.bel hW, fun q hq => (HPM.out q hq).bel hW⟩⟩
  have HPL : Hid (Loses (atO ms k) (atO xs b) ∧ (∀ i, atO ms (fK k i) = atO xs i) ∧ (rchP (atO ms) (n + 1)).filter (fun i => decide (i ≠ k)) = (rchP (atO xs) n).map (fK k)) := by
    have h5 := ins_at (xs := xs) (k := k) (y := (x, s)) (by rw [HXN.out]; exact hkn)
    have h6 := rch_ins (xs := xs) (k := k) (y := (x, s)) (by rw [HXN.out]; exact hkn)
    rw [HMS.out] at h5 h6
    rw [HXN.out] at h6
    refine ⟨?_, h5.2, h6⟩
    rw [h5.1, HXB.out.2]
    exact HLO.out
  have HWB : Hid (bsP (atO ms) (rchP (atO ms) (n + 1)) = some (fK k b)) := (worse HPL.out.2.1 HPL.out.2.2 HZ.out HPL.out.1).2
  have HWE : Hid (enP (atO ms) (rchP (atO ms) (n + 1)) = (enP (atO xs) (rchP (atO xs) n)).map (fK k)) := worse_even HPL.out.2.1 HPL.out.2.2 HZ.out HPL.out.1
  obtain ⟨m, hm⟩ : ∃ y, n + 1 = y := ⟨_, rfl⟩
  rw [hm] at HO8 HML HWB HWE ⊢
  have hm2 : m ≤ 201 := by omega
  have HM1 : Hid (n + 1 = m) := hm
  clear hm hvc
  obtain ⟨c, hc⟩ : ∃ y, fK k b = y := ⟨_, rfl⟩
  have hck : c ≠ k := by rw [← hc]; exact fK_ne k b
  have HCB2 : Hid (bkP c k = b) := by rw [← hc]; exact bk_fK k b
  have hc2 : c ≤ 1000 := by rw [← hc]; unfold fK; split <;> omega
  rw [hc] at HWB
  clear hc
  go_wp2_with fail
  refine (best_any va m vc ms HML.out (by omega) W8 HXM.out (c : Int) (by rw [HWB.out]; rfl)).mono ?_
  rintro e W9 ⟨rfl, hb9⟩
  have HB9 : Hid (Below W8.heap.size W8 W9) := hb9
  have hckb : ((c : Int) == (k : Int)) = false := by simp; omega
  clear hb9
  go_wp2_with fail
  refine (back_any c k hc2 W9).mono ?_
  rintro e W10 ⟨rfl, hw10⟩
  rw [hw10, HCB2.out]
  clear hw10 W10
  obtain ⟨es, hes⟩ : ∃ y, enP (atO xs) (rchP (atO xs) n) = y := ⟨_, rfl⟩
  rw [hes] at HWE
  have HB9W : Hid (Below w.heap.size w W9) := HBW8.out.trans (HB9.out.mono HBW8.out.size)
  have HE1 := evens_any (some ⟨lb, lo, none⟩) n lc xs HXN.out (by omega) W9 ((HX.out.bel HB9W.out).mono HB9W.out.size)
  rw [hes] at HE1
  have HESB : Hid (∀ e ∈ es, e ≤ 200) := fun e he => by
    rw [← hes] at he
    have h5 : e ∈ rchP (atO xs) n := by
      unfold enP at he
      rw [HZ.out] at he
      dsimp only at he
      rcases List.mem_cons.1 he with h | h
      · rw [h]; exact bs_mem HZ.out
      · exact (left_sub _ _ _).subset (List.mem_filter.1 (List.mem_of_mem_take h)).1
    have := rch_in _ _ e h5
    omega
  have HESL : Hid (es.length ≤ 4) := by
    rw [← hes]
    unfold enP
    rw [HZ.out]
    show (b :: _).length ≤ 4
    rw [List.length_cons, List.length_take]
    omega
  clear hes
  go_wp2_with fail
  refine HE1.mono ?_
  rintro e W11 ⟨v11, rfl, ho11, hb11⟩
  have HO11 : Hid (OwnL EN W9.heap.size W11 v11 es) := ho11
  have HB11 : Hid (Below W9.heap.size W9 W11) := hb11
  have HB11W : Hid (Below W8.heap.size W8 W11) := HB9.out.trans (hb11.mono HB9.out.size)
  clear ho11 hb11 HE1
  have HE2 := evens_any va m vc ms HML.out (by omega) W11 ((HXM.out.bel HB11W.out).mono HB11W.out.size)
  rw [HWE.out] at HE2
  go_wp2_with fail
  refine HE2.mono ?_
  rintro e W12 ⟨v12, rfl, ho12, hb12⟩
  have HO12 : Hid (OwnL EN W11.heap.size W12 v12 (es.map (fK k))) := ho12
  have HO11' : Hid (OwnL EN W9.heap.size W12 v11 es) := HO11.out.bel hb12
  have HB12 : Hid (Below w.heap.size w W12) := HB9W.out.trans ((HB11.out.trans (hb12.mono HB11.out.size)).mono HB9W.out.size)
  clear ho12 hb12 HE2 HO11
  obtain ⟨ea, ec, rfl, -⟩ := HO11'.out.form
  obtain ⟨fa, fc, rfl, -⟩ := HO12.out.form
  have hfl : (es.map (fK k)).length = es.length := List.length_map _
  rw [hfl] at HO12 ⊢
  obtain ⟨el, hel⟩ : ∃ y, es.length = y := ⟨_, rfl⟩
  have HEL : Hid (es.length = el) := hel
  rw [hel] at HO12 HO11' HESL ⊢
  clear hfl hel
  have hel4 : el ≤ 4 := HESL.out
  go_wp2_with fail
  go_loopw [119, 16] (fun iv _ wr => WoI w W12 el iv wr) (fun i _ _ => el - (intOf i).toNat)
  case atStart => exact ⟨⟨0, by omega, rfl⟩, Below.refl _ _⟩
  case round =>
    obtain ⟨⟨i, hi, rfl⟩, hbl⟩ := hrel
    obtain ⟨wz, hwz⟩ : ∃ y, wr = y := ⟨_, rfl⟩
    rw [hwz] at hbl ⊢
    have HBL : Hid (Below W12.heap.size W12 wz) := hbl
    clear hbl hwz
    by_cases hlt : i < el
    case neg =>
      have hii : ¬ (i : Int) < (el : Int) := by omega
      have HE : Hid (Below w.heap.size w wz) := HB12.out.trans (HBL.out.mono HB12.out.size)
      go_wp2_with fail
      go_ret
      exact ⟨rfl, HE.out⟩
    have hie : i < es.length := by rw [HEL.out]; exact hlt
    have hii : (i : Int) < (el : Int) := by omega
    have ii0 : (0 : Int) ≤ (i : Int) := by omega
    obtain ⟨ev, hev⟩ : ∃ y, es[i] = y := ⟨_, rfl⟩
    obtain ⟨fv, hfv⟩ : ∃ y, fK k ev = y := ⟨_, rfl⟩
    have hfk : ((fv : Int) == (k : Int)) = false := by have := fK_ne k ev; rw [hfv] at this; simp; omega
    have HBK : Hid (bkP fv k = ev) := by rw [← hfv]; exact bk_fK k ev
    have hfv2 : fv ≤ 1000 := by have := HESB.out es[i] (List.getElem_mem hie); rw [hev] at this; rw [← hfv]; unfold fK; split <;> omega
    obtain ⟨eg, rfl⟩ : ∃ g, ea = some ⟨g, 0, none⟩ := by
      rcases HO11'.out.row.2 with ⟨h1, h2⟩ | ⟨g', c, cur, h1, h2, h3, h4⟩
      · omega
      · cases h1; exact ⟨g', rfl⟩
    obtain ⟨fg, rfl⟩ : ∃ g, fa = some ⟨g, 0, none⟩ := by
      rcases HO12.out.row.2 with ⟨h1, h2⟩ | ⟨g', c, cur, h1, h2, h3, h4⟩
      · rw [List.length_map] at h2; omega
      · cases h1; exact ⟨g', rfl⟩
    have cf : wz.drew.cell? ⟨fg, i, none⟩ = some (.int .i64 (fv : Int)) := by
      have h5 := lst_if (HO12.out.bel HBL.out) i (by rw [List.length_map]; exact hie)
      rw [List.getElem_map, hev, hfv] at h5
      exact h5
    have ce : wz.drew.cell? ⟨eg, i, none⟩ = some (.int .i64 (ev : Int)) := by
      have h5 := lst_if (HO11'.out.bel HBL.out) i hie
      rw [hev] at h5
      exact h5
    have HWD : Hid (Below W12.heap.size W12 wz.drew) := HBL.out.trans ((drew_bel wz).mono HBL.out.size)
    clear hev hfv hie HBL
    go_wp2_with fail
    refine wp_region_held_drew (S := fun W => W = wz.drew) (by kernel_rfl) rfl (fun hHeld => ?_)
    obtain ⟨wd, hwd⟩ : ∃ y, wz.drew = y := ⟨_, rfl⟩
    rw [hwd] at hHeld cf ce HWD ⊢
    clear hwd
    refine wpAnyH_take (i := 0) (v := .slice (some ⟨fg, 0, none⟩) el fc) rfl (by kernel_rfl) (by kernel_rfl) (by kernel_rfl) (fun _ _ _ h => h) (Or.inl ⟨by rfl, ?_⟩) (by assumption) ?_
    case refine_1 => intro W hSw; rw [hSw]; go_simp; try rfl
    try simp only [Act.put, List.getElem_toArray, List.getElem_cons_zero, List.getElem_cons_succ, List.setIfInBounds_toArray, List.set_cons_zero, List.set_cons_succ]
    refine wpAnyH_take (i := 1) (v := .int .i64 (i : Int)) rfl (by kernel_rfl) (by kernel_rfl) (by kernel_rfl) (fun _ _ _ h => h) (Or.inl ⟨by rfl, ?_⟩) (by assumption) ?_
    case refine_1 => intro W hSw; rw [hSw]; go_simp; try rfl
    try simp only [Act.put, List.getElem_toArray, List.getElem_cons_zero, List.getElem_cons_succ, List.setIfInBounds_toArray, List.set_cons_zero, List.set_cons_succ]
    refine wpAnyH_take (i := 2) (v := .pointer (some ⟨fg, i, none⟩)) rfl (by kernel_rfl) (by kernel_rfl) (by kernel_rfl) (fun _ _ _ h => h) (Or.inl ⟨by rfl, ?_⟩) (by assumption) ?_
    case refine_1 => intro W hSw; rw [hSw]; go_simp; try rfl
    try simp only [Act.put, List.getElem_toArray, List.getElem_cons_zero, List.getElem_cons_succ, List.setIfInBounds_toArray, List.set_cons_zero, List.set_cons_succ]
    refine wpAnyH_take (i := 3) (v := .int .i64 (fv : Int)) rfl (by kernel_rfl) (by kernel_rfl) (by kernel_rfl) (fun _ _ _ h => h) (Or.inl ⟨by rfl, ?_⟩) (by assumption) ?_
    case refine_1 => intro W hSw; rw [hSw]; go_simp; try rfl
    try simp only [Act.put, List.getElem_toArray, List.getElem_cons_zero, List.getElem_cons_succ, List.setIfInBounds_toArray, List.set_cons_zero, List.set_cons_succ]
    refine wpAnyH_take (i := 4) (v := .int .i64 (k : Int)) rfl (by kernel_rfl) (by kernel_rfl) (by kernel_rfl) (fun _ _ _ h => h) (Or.inl ⟨by rfl, ?_⟩) (by assumption) ?_
    case refine_1 => intro W hSw; rw [hSw]; go_simp; try rfl
    try simp only [Act.put, List.getElem_toArray, List.getElem_cons_zero, List.getElem_cons_succ, List.setIfInBounds_toArray, List.set_cons_zero, List.set_cons_succ]
    refine wpAnyH_take (i := 5) (v := .bool false) rfl (by kernel_rfl) (by kernel_rfl) (by kernel_rfl) (fun _ _ _ h => h) (Or.inl ⟨by rfl, ?_⟩) (by assumption) ?_
    case refine_1 => intro W hSw; rw [hSw]; go_simp; try rfl
    try simp only [Act.put, List.getElem_toArray, List.getElem_cons_zero, List.getElem_cons_succ, List.setIfInBounds_toArray, List.set_cons_zero, List.set_cons_succ]
    refine wpAnyH_take (i := 6) (v := .bool false) rfl (by kernel_rfl) (by kernel_rfl) (by kernel_rfl) (fun _ _ _ h => h) (Or.inl ⟨by rfl, ?_⟩) (by assumption) ?_
    case refine_1 => intro W hSw; rw [hSw]; go_simp; try rfl
    try simp only [Act.put, List.getElem_toArray, List.getElem_cons_zero, List.getElem_cons_succ, List.setIfInBounds_toArray, List.set_cons_zero, List.set_cons_succ]
    refine wpAnyH_take (i := 7) (v := .slice (some ⟨fg, 0, none⟩) el fc) rfl (by kernel_rfl) (by kernel_rfl) (by kernel_rfl) (fun _ _ _ h => h) (Or.inl ⟨by rfl, ?_⟩) (by assumption) ?_
    case refine_1 => intro W hSw; rw [hSw]; go_simp; try rfl
    try simp only [Act.put, List.getElem_toArray, List.getElem_cons_zero, List.getElem_cons_succ, List.setIfInBounds_toArray, List.set_cons_zero, List.set_cons_succ]
    refine wpAnyH_take (i := 8) (v := .int .i64 (i : Int)) rfl (by kernel_rfl) (by kernel_rfl) (by kernel_rfl) (fun _ _ _ h => h) (Or.inl ⟨by rfl, ?_⟩) (by assumption) ?_
    case refine_1 => intro W hSw; rw [hSw]; go_simp; try rfl
    try simp only [Act.put, List.getElem_toArray, List.getElem_cons_zero, List.getElem_cons_succ, List.setIfInBounds_toArray, List.set_cons_zero, List.set_cons_succ]
    refine wpAnyH_take (i := 9) (v := .pointer (some ⟨fg, i, none⟩)) rfl (by kernel_rfl) (by kernel_rfl) (by kernel_rfl) (fun _ _ _ h => h) (Or.inl ⟨by rfl, ?_⟩) (by assumption) ?_
    case refine_1 => intro W hSw; rw [hSw]; go_simp; try rfl
    try simp only [Act.put, List.getElem_toArray, List.getElem_cons_zero, List.getElem_cons_succ, List.setIfInBounds_toArray, List.set_cons_zero, List.set_cons_succ]
    refine wpAnyH_take (i := 10) (v := .int .i64 (fv : Int)) rfl (by kernel_rfl) (by kernel_rfl) (by kernel_rfl) (fun _ _ _ h => h) (Or.inl ⟨by rfl, ?_⟩) (by assumption) ?_
    case refine_1 => intro W hSw; rw [hSw]; go_simp; try rfl
    try simp only [Act.put, List.getElem_toArray, List.getElem_cons_zero, List.getElem_cons_succ, List.setIfInBounds_toArray, List.set_cons_zero, List.set_cons_succ]
    refine wpAnyH_take (i := 11) (v := .int .i64 (k : Int)) rfl (by kernel_rfl) (by kernel_rfl) (by kernel_rfl) (fun _ _ _ h => h) (Or.inl ⟨by rfl, ?_⟩) (by assumption) ?_
    case refine_1 => intro W hSw; rw [hSw]; go_simp; try rfl
    try simp only [Act.put, List.getElem_toArray, List.getElem_cons_zero, List.getElem_cons_succ, List.setIfInBounds_toArray, List.set_cons_zero, List.set_cons_succ]
    refine wpAnyH_take (i := 13) (v := .slice (some ⟨eg, 0, none⟩) el ec) rfl (by kernel_rfl) (by kernel_rfl) (by kernel_rfl) (fun _ _ _ h => h) (Or.inl ⟨by rfl, ?_⟩) (by assumption) ?_
    case refine_1 => intro W hSw; rw [hSw]; go_simp; try rfl
    try simp only [Act.put, List.getElem_toArray, List.getElem_cons_zero, List.getElem_cons_succ, List.setIfInBounds_toArray, List.set_cons_zero, List.set_cons_succ]
    refine wpAnyH_take (i := 14) (v := .int .i64 (i : Int)) rfl (by kernel_rfl) (by kernel_rfl) (by kernel_rfl) (fun _ _ _ h => h) (Or.inl ⟨by rfl, ?_⟩) (by assumption) ?_
    case refine_1 => intro W hSw; rw [hSw]; go_simp; try rfl
    try simp only [Act.put, List.getElem_toArray, List.getElem_cons_zero, List.getElem_cons_succ, List.setIfInBounds_toArray, List.set_cons_zero, List.set_cons_succ]
    refine wpAnyH_take (i := 15) (v := .pointer (some ⟨eg, i, none⟩)) rfl (by kernel_rfl) (by kernel_rfl) (by kernel_rfl) (fun _ _ _ h => h) (Or.inl ⟨by rfl, ?_⟩) (by assumption) ?_
    case refine_1 => intro W hSw; rw [hSw]; go_simp; try rfl
    try simp only [Act.put, List.getElem_toArray, List.getElem_cons_zero, List.getElem_cons_succ, List.setIfInBounds_toArray, List.set_cons_zero, List.set_cons_succ]
    refine wpAnyH_take (i := 16) (v := .int .i64 (ev : Int)) rfl (by kernel_rfl) (by kernel_rfl) (by kernel_rfl) (fun _ _ _ h => h) (Or.inl ⟨by rfl, ?_⟩) (by assumption) ?_
    case refine_1 => intro W hSw; rw [hSw]; go_simp; try rfl
    try simp only [Act.put, List.getElem_toArray, List.getElem_cons_zero, List.getElem_cons_succ, List.setIfInBounds_toArray, List.set_cons_zero, List.set_cons_succ]
    refine wpAnyH_ready (rs := [12]) (by kernel_rfl) (by simp) ?_
    refine AllReadyH.cons rfl (fun K hK => ?_) AllReadyH.nil
    go_simp
    refine (back_any fv k hfv2 wd).mono ?_
    rintro e we ⟨rfl, hwe⟩
    rw [hwe, HBK.out]
    clear hwe we
    refine hK.out _ _ rfl (fun hHeld => ?_)
    clear hK K
    try simp only [Act.put, List.getElem_toArray, List.getElem_cons_zero, List.getElem_cons_succ, List.setIfInBounds_toArray, List.set_cons_zero, List.set_cons_succ]
    refine wpAnyH_take (i := 17) (v := .bool false) rfl (by kernel_rfl) (by kernel_rfl) (by kernel_rfl) (fun _ _ _ h => h) (Or.inl ⟨by rfl, ?_⟩) (by assumption) ?_
    case refine_1 => intro W hSw; rw [hSw]; go_simp; try rfl
    try simp only [Act.put, List.getElem_toArray, List.getElem_cons_zero, List.getElem_cons_succ, List.setIfInBounds_toArray, List.set_cons_zero, List.set_cons_succ]
    refine wpAnyH_take (i := 18) (v := .bool false) rfl (by kernel_rfl) (by kernel_rfl) (by kernel_rfl) (fun _ _ _ h => h) (Or.inl ⟨by rfl, ?_⟩) (by assumption) ?_
    case refine_1 => intro W hSw; rw [hSw]; go_simp; try rfl
    try simp only [Act.put, List.getElem_toArray, List.getElem_cons_zero, List.getElem_cons_succ, List.setIfInBounds_toArray, List.set_cons_zero, List.set_cons_succ]
    refine wpAnyH_done (by kernel_rfl) ?_ _
    clear hHeld
    go_wp2_with fail
    refine ⟨⟨⟨i + 1, by omega, by simp⟩, HWD.out⟩, ?_⟩
    simp [intOf]
    omega
end Go.Proofs.Ytkahjibdmhaglaa.Ch
