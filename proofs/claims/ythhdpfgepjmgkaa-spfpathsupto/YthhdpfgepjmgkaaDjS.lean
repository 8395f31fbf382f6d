/- rising.Set: Add, List. -/
import Derived.Test.YthhdpfgepjmgkaaDjR
import Derived.StillTailTactics
namespace Go.Proofs.Ythhdpfgepjmgkaa.Dj
open Go.ChangeShapes Go.WideShapes Go.ChangeAt Go.RowKit Go.Joins Go.Deep Go.Sort Go.Proofs.Ythhdpfgepjmgkaa.Ge
set_option linter.unusedVariables false
set_option linter.unusedSimpArgs false

set_option maxRecDepth 100000 in
set_option maxHeartbeats 16000000 in
theorem sadd_any (N sb : Nat) (v : Value) (xs U : List Int) (a : Option Addr) (n c : Nat) (ys : List Int) (w : World) (hN : N ≤ w.heap.size) (hU : U.length ≤ 100000000) (h : Rs N sb v xs U w) (hn : ys.length = n) (hy : Lst EI w a ys) (hz : a = none → n = 0 ∧ c = 0) (hnb : n ≤ 100000000) (hyU : ∀ x ∈ ys, x ∈ U) : Calls Try.prog 42 #[.pointer (some ⟨sb, 0, none⟩), .slice a n c] w (RsPost w N sb v U (fun zs => ∀ x, x ∈ zs ↔ x ∈ xs ∨ x ∈ ys)) := by
  obtain ⟨⟨cl, hsb, hlen, hcl⟩, ho, hne, hin⟩ := h
  obtain ⟨va, vc, rfl, -, -, -⟩ := ho.form
  obtain ⟨k, hk⟩ : ∃ y, xs.length = y := ⟨_, rfl⟩
  rw [hk] at ho hne hsb ⊢
  have HS : Hid (SB StK sb [.slice va k vc, .int .i64 (cl : Int)] w) := hsb
  have HO : Hid (OwnL EI N w (.slice va k vc) xs) := ho
  have HNE : Hid (∀ g, (Value.slice va k vc).ownBlock = some g → sb ≠ g) := hne
  have HN : Hid (xs.length = k ∧ k ≤ 2 * cl + 16 ∧ cl ≤ U.length ∧ U.length ≤ 100000000 ∧ (∀ x ∈ xs, x ∈ U) ∧ N ≤ w.heap.size) := ⟨hk, by omega, hcl, hU, hin, hN⟩
  have HY : Hid (Lst EI w a ys ∧ ys.length = n ∧ n ≤ 100000000 ∧ (a = none → n = 0 ∧ c = 0) ∧ ∀ x ∈ ys, x ∈ U) := ⟨hy, hn, hnb, hz, hyU⟩
  have c0 : w.cell? ⟨sb, 0, none⟩ = some (.slice va k vc) := hsb.cell 0
  have f0 : w.frozen? ⟨sb, 0, none⟩ = false := hsb.fro 0
  clear hN hU hsb hlen hcl ho hne hin hk hn hy hz hnb hyU
  go_enter Try.func42, Try.ntmps42
  go_wp2_with (at_builtin; refine list_appL EI rfl _ _ 30 rfl rfl N (.slice va k vc) xs ys a n c w (by have := HN.out; have := HY.out; omega) rfl HO.out rfl HY.out.1 HY.out.2.2.2.1 HY.out.2.1 HN.out.2.2.2.2.2 ?_)
  intro v2 w2 ho2 hg2 ha2
  obtain ⟨va2, vc2, rfl, -, -, -⟩ := ho2.out.form
  obtain ⟨k2, hk2⟩ : ∃ y, (xs ++ ys).length = y := ⟨_, rfl⟩
  have HK2 : Hid (k2 = k + n) := by have h1 := HN.out.1; have h2 := HY.out.2.1; rw [List.length_append] at hk2; show _ = _; omega
  have HO2 : Hid (OwnL EI N w2 (.slice va2 k2 vc2) (xs ++ ys)) := by rw [← hk2]; exact ho2.out
  have HA2 : Hid (∀ g, (Value.slice va2 k2 vc2).ownBlock = some g → (Value.slice va k vc).ownBlock = some g ∨ w.heap.size ≤ g) := fun g e => by
    rw [← hk2] at e
    rcases ha2.out with h | h
    · exact .inl (by rw [← h]; exact e)
    · rw [h] at e; cases e; exact .inr (Nat.le_refl _)
  have HS2 : Hid (SB StK sb [.slice va k vc, .int .i64 (cl : Int)] w2) := HS.out.blk (hg2.out.block sb HS.out.lt (fun e => HNE.out sb e.symm rfl))
  have HKF2 : Hid (Kf (fpT sb (.slice va k vc)) w w2) := Kf.of_grown hg2.out (fun g e => .inr e)
  rw [hk2]
  have c0 : w2.cell? ⟨sb, 0, none⟩ = some (.slice va k vc) := HS2.out.cell 0
  have f0 : w2.frozen? ⟨sb, 0, none⟩ = false := HS2.out.fro 0
  have hk3 := Ko.set w2 sb 0 (.slice va2 k2 vc2)
  have HNE3 : Hid (∀ g, (Value.slice va2 k2 vc2).ownBlock = some g → sb ≠ g) := fun g e c => by
    rcases HA2.out g e with h | h
    · exact HNE.out g h c
    · have := HS.out.lt; omega
  have HS3 : Hid (SB StK sb [.slice va2 k2 vc2, .int .i64 (cl : Int)] (w2.setCell ⟨sb, 0, none⟩ (.slice va2 k2 vc2))) := HS2.out.set 0 _ rfl
  have HKF3 : Hid (Kf (fpT sb (.slice va k vc)) w (w2.setCell ⟨sb, 0, none⟩ (.slice va2 k2 vc2))) := HKF2.out.trans (Kf.of_ko hk3 (F := fpT sb (.slice va k vc)) (fun _ => .inl rfl)) (fun _ _ e => e)
  have HO3 : Hid (OwnL EI N (w2.setCell ⟨sb, 0, none⟩ (.slice va2 k2 vc2)) (.slice va2 k2 vc2) (xs ++ ys)) := HO2.out.blk (fun g e => hk3.block g (fun c => HNE3.out g e c.symm))
  clear ho2 hg2 ha2 hk2 hk3
  go_upto_region 1 with fail
  obtain ⟨w3, hw3⟩ : ∃ y, w2.setCell ⟨sb, 0, none⟩ (.slice va2 k2 vc2) = y := ⟨_, rfl⟩
  rw [hw3] at HS3 HKF3 HO3 ⊢
  clear hw3 c0 f0 HS2 HKF2 HO2
  obtain ⟨wd, hwd⟩ : ∃ y, w3.drew = y := ⟨_, rfl⟩
  have HSD : Hid (SB StK sb [.slice va2 k2 vc2, .int .i64 (cl : Int)] wd) := by rw [← hwd]; exact HS3.out.blk ((drew_bel w3).block sb HS3.out.lt)
  have HKFD : Hid (Kf (fpT sb (.slice va k vc)) w wd) := by rw [← hwd]; exact HKF3.out.trans (Kf.of_bel (drew_bel w3) (F := fun _ => False)) (fun _ _ e => e.elim)
  have HOD : Hid (OwnL EI N wd (.slice va2 k2 vc2) (xs ++ ys)) := by rw [← hwd]; exact HO3.out.bel (drew_bel w3)
  have hclb : (cl : Int) ≤ 100000000 := by have := HN.out; omega
  have hkb : (k2 : Int) < 1000000000 := by have := HN.out; have := HY.out; have := HK2.out; omega
  have HW1 : Hid (IntKind.i64.wrap (2 * (cl : Int)) = 2 * (cl : Int)) := wr64 _ (by omega) (by omega)
  have HW2 : Hid (IntKind.i64.wrap (2 * (cl : Int) + 16) = 2 * (cl : Int) + 16) := wr64 _ (by omega) (by omega)
  obtain ⟨r, hr⟩ : ∃ y, decide (2 * (cl : Int) + 16 < (k2 : Int)) = y := ⟨_, rfl⟩
  have HR : Hid (decide (2 * (cl : Int) + 16 < (k2 : Int)) = r) := hr
  have HWD : Hid (w3.drew = wd) := hwd
  clear hr
  refine wp_region_held_drew (S := fun W => W = wd) (by kernel_rfl) HWD.out (fun hHeld => ?_)
  rw [HWD.out] at hHeld ⊢
  refine wpAnyH_take (i := 0) (v := .pointer (some ⟨sb, 0, none⟩)) rfl (by kernel_rfl) (by kernel_rfl) (by kernel_rfl) (fun _ _ _ h => h) (Or.inl ⟨by rfl, ?_⟩) (by assumption) ?_
  case refine_1 => intro W hSw; rw [hSw]; go_simp; try rfl
  try simp only [Act.put, List.getElem_toArray, List.getElem_cons_zero, List.getElem_cons_succ, List.setIfInBounds_toArray, List.set_cons_zero, List.set_cons_succ]
  refine wpAnyH_take (i := 1) (v := .pointer (some ⟨sb, 0, none⟩)) rfl (by kernel_rfl) (by kernel_rfl) (by kernel_rfl) (fun _ _ _ h => h) (Or.inl ⟨by rfl, ?_⟩) (by assumption) ?_
  case refine_1 => intro W hSw; rw [hSw]; go_simp; try rfl
  try simp only [Act.put, List.getElem_toArray, List.getElem_cons_zero, List.getElem_cons_succ, List.setIfInBounds_toArray, List.set_cons_zero, List.set_cons_succ]
  refine wpAnyH_take (i := 2) (v := .pointer (some ⟨sb, 0, none⟩)) rfl (by kernel_rfl) (by kernel_rfl) (by kernel_rfl) (fun _ _ _ h => h) (Or.inl ⟨by rfl, ?_⟩) (by assumption) ?_
  case refine_1 => intro W hSw; rw [hSw]; go_simp; try rfl
  try simp only [Act.put, List.getElem_toArray, List.getElem_cons_zero, List.getElem_cons_succ, List.setIfInBounds_toArray, List.set_cons_zero, List.set_cons_succ]
  refine wpAnyH_take (i := 3) (v := .slice va2 k2 vc2) rfl (by kernel_rfl) (by kernel_rfl) (by kernel_rfl) (fun _ _ _ h => h) (Or.inl ⟨by rfl, ?_⟩) (by assumption) ?_
  case refine_1 => intro W hSw; rw [hSw]; have k1 : wd.cell? ⟨sb, 0, none⟩ = some (.slice va2 k2 vc2) := HSD.out.cell 0; go_simp; try rfl
  try simp only [Act.put, List.getElem_toArray, List.getElem_cons_zero, List.getElem_cons_succ, List.setIfInBounds_toArray, List.set_cons_zero, List.set_cons_succ]
  refine wpAnyH_take (i := 4) (v := .int .i64 (k2 : Int)) rfl (by kernel_rfl) (by kernel_rfl) (by kernel_rfl) (fun _ _ _ h => h) (Or.inl ⟨by rfl, ?_⟩) (by assumption) ?_
  case refine_1 => intro W hSw; rw [hSw]; go_simp; try rfl
  try simp only [Act.put, List.getElem_toArray, List.getElem_cons_zero, List.getElem_cons_succ, List.setIfInBounds_toArray, List.set_cons_zero, List.set_cons_succ]
  refine wpAnyH_take (i := 5) (v := .pointer (some ⟨sb, 0, none⟩)) rfl (by kernel_rfl) (by kernel_rfl) (by kernel_rfl) (fun _ _ _ h => h) (Or.inl ⟨by rfl, ?_⟩) (by assumption) ?_
  case refine_1 => intro W hSw; rw [hSw]; go_simp; try rfl
  try simp only [Act.put, List.getElem_toArray, List.getElem_cons_zero, List.getElem_cons_succ, List.setIfInBounds_toArray, List.set_cons_zero, List.set_cons_succ]
  refine wpAnyH_take (i := 6) (v := .pointer (some ⟨sb, 0, none⟩)) rfl (by kernel_rfl) (by kernel_rfl) (by kernel_rfl) (fun _ _ _ h => h) (Or.inl ⟨by rfl, ?_⟩) (by assumption) ?_
  case refine_1 => intro W hSw; rw [hSw]; go_simp; try rfl
  try simp only [Act.put, List.getElem_toArray, List.getElem_cons_zero, List.getElem_cons_succ, List.setIfInBounds_toArray, List.set_cons_zero, List.set_cons_succ]
  refine wpAnyH_take (i := 7) (v := .pointer (some ⟨sb, 1, none⟩)) rfl (by kernel_rfl) (by kernel_rfl) (by kernel_rfl) (fun _ _ _ h => h) (Or.inl ⟨by rfl, ?_⟩) (by assumption) ?_
  case refine_1 => intro W hSw; rw [hSw]; go_simp; try rfl
  try simp only [Act.put, List.getElem_toArray, List.getElem_cons_zero, List.getElem_cons_succ, List.setIfInBounds_toArray, List.set_cons_zero, List.set_cons_succ]
  refine wpAnyH_take (i := 8) (v := .int .i64 (cl : Int)) rfl (by kernel_rfl) (by kernel_rfl) (by kernel_rfl) (fun _ _ _ h => h) (Or.inl ⟨by rfl, ?_⟩) (by assumption) ?_
  case refine_1 => intro W hSw; rw [hSw]; have k1 : wd.cell? ⟨sb, 1, none⟩ = some (.int .i64 (cl : Int)) := HSD.out.cell 1; go_simp; try rfl
  try simp only [Act.put, List.getElem_toArray, List.getElem_cons_zero, List.getElem_cons_succ, List.setIfInBounds_toArray, List.set_cons_zero, List.set_cons_succ]
  refine wpAnyH_take (i := 9) (v := .int .i64 (2 * (cl : Int))) rfl (by kernel_rfl) (by kernel_rfl) (by kernel_rfl) (fun _ _ _ h => h) (Or.inl ⟨by rfl, ?_⟩) (by assumption) ?_
  case refine_1 => intro W hSw; go_simp; exact HW1.out
  try simp only [Act.put, List.getElem_toArray, List.getElem_cons_zero, List.getElem_cons_succ, List.setIfInBounds_toArray, List.set_cons_zero, List.set_cons_succ]
  refine wpAnyH_take (i := 10) (v := .int .i64 (2 * (cl : Int) + 16)) rfl (by kernel_rfl) (by kernel_rfl) (by kernel_rfl) (fun _ _ _ h => h) (Or.inl ⟨by rfl, ?_⟩) (by assumption) ?_
  case refine_1 => intro W hSw; go_simp; exact HW2.out
  try simp only [Act.put, List.getElem_toArray, List.getElem_cons_zero, List.getElem_cons_succ, List.setIfInBounds_toArray, List.set_cons_zero, List.set_cons_succ]
  refine wpAnyH_take (i := 11) (v := .bool r) rfl (by kernel_rfl) (by kernel_rfl) (by kernel_rfl) (fun _ _ _ h => h) (Or.inl ⟨by rfl, ?_⟩) (by assumption) ?_
  case refine_1 => intro W hSw; go_simp; exact HR.out
  try simp only [Act.put, List.getElem_toArray, List.getElem_cons_zero, List.getElem_cons_succ, List.setIfInBounds_toArray, List.set_cons_zero, List.set_cons_succ]
  refine wpAnyH_done (by kernel_rfl) ?_ _
  clear hHeld HWD hwd HS3 HKF3 HO3
  clear hclb hkb
  cases r
  case false =>
    have hd := of_decide_eq_false HR.out
    have HE : Hid (RsPost w N sb (.slice va k vc) U (fun zs => ∀ x, x ∈ zs ↔ x ∈ xs ∨ x ∈ ys) (.returned (.tuple #[])) wd) := ⟨rfl, _, xs ++ ys, ⟨⟨cl, HSD.out, by rw [HOD.out.lst.2]; omega, HN.out.2.2.1⟩, HOD.out, HNE3.out, fun x hx => (List.mem_append.1 hx).elim (HN.out.2.2.2.2.1 x) (HY.out.2.2.2.2 x)⟩, fun x => List.mem_append, HKFD.out, HA2.out⟩
    clear hd
    go_wp2_with fail
    go_end0
    exact HE.out
  have HC : Hid (Calls Try.prog 54 #[.pointer (some ⟨sb, 0, none⟩)] wd (RsPost wd N sb (.slice va2 k2 vc2) U (fun zs => zs = tidyP (xs ++ ys)))) := tidy_any N sb _ (xs ++ ys) U cl wd HN.out.2.2.2.1 (by rw [HOD.out.lst.2]; have := HN.out; have := HY.out; have := HK2.out; omega) HSD.out HOD.out HNE3.out (fun x hx => (List.mem_append.1 hx).elim (HN.out.2.2.2.2.1 x) (HY.out.2.2.2.2 x))
  go_wp2_with fail
  refine HC.out.mono ?_
  rintro e w5 ⟨rfl, v5, zs, hr5, rfl, hk5, hv5⟩
  have HE : Hid (RsPost w N sb (.slice va k vc) U (fun zs => ∀ x, x ∈ zs ↔ x ∈ xs ∨ x ∈ ys) (.returned (.tuple #[])) w5) := ⟨rfl, v5, _, hr5, fun x => ((tidy_ok _).2 x).trans List.mem_append, HKFD.out.trans hk5 (fun b hb e => by
    rcases e with e | e
    · exact .inl e
    · rcases HA2.out b e with h | h
      · exact .inr h
      · omega), fun g e => by
    rcases hv5 g e with h | h
    · exact HA2.out g h
    · exact .inr (Nat.le_trans HKFD.out.size h)⟩
  clear hr5 hk5 hv5 HC
  go_wp2_with fail
  go_end0
  exact HE.out
def SlPost (w : World) (N sb : Nat) (v : Value) (xs U : List Int) (e : Ending) (w' : World) : Prop := ∃ v2 v3, e = .returned v2 ∧ OwnL EI w.heap.size w' v2 (tidyP xs) ∧ Rs N sb v3 (tidyP xs) U w' ∧ Kf (fpT sb v) w w' ∧ (∀ g, v3.ownBlock = some g → v.ownBlock = some g ∨ w.heap.size ≤ g) ∧ ∀ g, v2.ownBlock = some g → ¬ fpT sb v3 g
set_option maxRecDepth 100000 in
set_option maxHeartbeats 16000000 in
theorem slist_any (N sb : Nat) (v : Value) (xs U : List Int) (w : World) (hU : U.length ≤ 100000000) (h : Rs N sb v xs U w) : Calls Try.prog 44 #[.pointer (some ⟨sb, 0, none⟩)] w (SlPost w N sb v xs U) := by
  have HC : Hid (Calls Try.prog 54 #[.pointer (some ⟨sb, 0, none⟩)] w (RsPost w N sb v U (fun zs => zs = tidyP xs))) := by
    obtain ⟨⟨cl, hsb, hlen, hcl⟩, ho, hne, hin⟩ := h
    exact tidy_any N sb _ xs U cl w hU (by omega) hsb ho hne hin
  have HU : Hid (U.length ≤ 100000000 ∧ (tidyP xs).length ≤ U.length) := ⟨hU, tidy_len h.inU⟩
  clear h hU
  go_enter Try.func44, Try.ntmps44
  go_wp2_with fail
  refine HC.out.mono ?_
  rintro e w2 ⟨rfl, v2, zs, hr2, rfl, hk2, hv2⟩
  obtain ⟨T, hT⟩ : ∃ y, tidyP xs = y := ⟨_, rfl⟩
  have HT : Hid (tidyP xs = T) := hT
  rw [hT] at hr2 HU
  obtain ⟨va, vc, rfl, -, hz, -⟩ := hr2.own.form
  obtain ⟨n, hn⟩ : ∃ y, T.length = y := ⟨_, rfl⟩
  rw [hn] at hr2 hv2 HU hz
  have HR2 : Hid (Rs N sb (.slice va n vc) T U w2) := hr2
  have HK2 : Hid (Kf (fpT sb v) w w2) := hk2
  have HV2 : Hid (∀ g, (Value.slice va n vc).ownBlock = some g → v.ownBlock = some g ∨ w.heap.size ≤ g) := hv2
  have HZ : Hid (va = none → n = 0 ∧ vc = 0) := hz
  have HNT : Hid (T.length = n) := hn
  have c0 : w2.cell? ⟨sb, 0, none⟩ = some (.slice va n vc) := by
    obtain ⟨cl, h1, -⟩ := hr2.ex
    exact h1.cell 0
  clear hr2 hk2 hv2 hz hn hT HC
  go_wp2_with fail
  refine (clone_any va n vc T w2 HNT.out (by have := HU.out; omega) HR2.out.own.lst.1 HZ.out).mono ?_
  rintro e w3 ⟨v3, rfl, ho3, hb3⟩
  have HE : Hid (SlPost w N sb v xs U (.returned v3) w3) := by
    unfold SlPost
    rw [HT.out]
    exact ⟨v3, _, rfl, ho3.mono HK2.out.size, HR2.out.bel hb3, HK2.out.trans (Kf.of_bel hb3 (F := fun _ => False)) (fun _ _ e => e.elim), HV2.out, fun g e c => by have h1 := (ho3.row.lt g e).1; have h2 := HR2.out.lt g c; omega⟩
  clear ho3 hb3 c0
  go_wp2_with fail
  go_ret
  exact HE.out
end Go.Proofs.Ythhdpfgepjmgkaa.Dj
