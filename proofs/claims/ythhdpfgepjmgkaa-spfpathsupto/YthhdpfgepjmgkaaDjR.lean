/- rising.Set: tidy, Add, List. -/
import Derived.Test.YthhdpfgepjmgkaaDjQ
namespace Go.Proofs.Ythhdpfgepjmgkaa.Dj
open Go.ChangeShapes Go.WideShapes Go.ChangeAt Go.RowKit Go.Joins Go.Deep Go.Sort Go.Proofs.Ythhdpfgepjmgkaa.Ge
set_option linter.unusedVariables false
set_option linter.unusedSimpArgs false

/-- a set at sb: all that it holds is of U -/
structure Rs (N sb : Nat) (v : Value) (xs U : List Int) (W : World) : Prop where
  ex : ∃ cl : Nat, SB StK sb [v, .int .i64 (cl : Int)] W ∧ xs.length ≤ 2 * cl + 16 ∧ cl ≤ U.length
  own : OwnL EI N W v xs
  ne : ∀ g, v.ownBlock = some g → sb ≠ g
  inU : ∀ x ∈ xs, x ∈ U
theorem Rs.blk {N sb : Nat} {v : Value} {xs U : List Int} {W W' : World} (h : Rs N sb v xs U W) (hb : ∀ b, fpT sb v b → b < W.heap.size → W'.heap[b]? = W.heap[b]?) : Rs N sb v xs U W' := by
  obtain ⟨cl, h1, h2⟩ := h.ex
  exact ⟨⟨cl, h1.blk (hb sb (.inl rfl) h1.lt), h2⟩, h.own.blk (fun g e => hb g (.inr e) (h.own.row.lt g e).2), h.ne, h.inU⟩
theorem Rs.bel {N sb : Nat} {v : Value} {xs U : List Int} {W W' : World} (h : Rs N sb v xs U W) (hb : Below W.heap.size W W') : Rs N sb v xs U W' := h.blk (fun b _ hl => hb.block b hl)
theorem Rs.lt {N sb : Nat} {v : Value} {xs U : List Int} {W : World} (h : Rs N sb v xs U W) (b : Nat) (hb : fpT sb v b) : b < W.heap.size := by
  rcases hb with rfl | e
  · obtain ⟨cl, h1, -⟩ := h.ex
    exact h1.lt
  · exact (h.own.row.lt b e).2
/-- what rising.Set's calls leave -/
def RsPost (w : World) (N sb : Nat) (v : Value) (U : List Int) (P : List Int → Prop) (e : Ending) (w' : World) : Prop := e = .returned (.tuple #[]) ∧ ∃ v' xs', Rs N sb v' xs' U w' ∧ P xs' ∧ Kf (fpT sb v) w w' ∧ ∀ g, v'.ownBlock = some g → v.ownBlock = some g ∨ w.heap.size ≤ g
def tidyP (xs : List Int) : List Int := Lib.compact (xs.mergeSort fun x y => decide (x ≤ y))
theorem tidy_ok (xs : List Int) : (tidyP xs).Pairwise (· < ·) ∧ (∀ x, x ∈ tidyP xs ↔ x ∈ xs) := by
  have h1 : (xs.mergeSort fun x y => decide (x ≤ y)).Pairwise (· ≤ ·) := by
    have := List.pairwise_mergeSort (le := fun x y : Int => decide (x ≤ y)) (fun a b c h1 h2 => by simp at h1 h2 ⊢; omega) (fun a b => by simp; omega) xs
    exact this.imp (fun h => by simpa using h)
  obtain ⟨h2, h3⟩ := compact_sorted _ h1
  exact ⟨h2, fun x => (h3 x).trans (List.mem_mergeSort)⟩
theorem tidy_len {xs U : List Int} (h : ∀ x ∈ xs, x ∈ U) : (tidyP xs).length ≤ U.length :=
  nodup_le _ _ ((tidy_ok xs).1.imp (fun h => by omega)) (fun x hx => h x (((tidy_ok xs).2 x).1 hx))
theorem comp_own {a : Option Addr} {n c m : Nat} : (Value.slice a m c).ownBlock = (Value.slice a n c).ownBlock := by
  cases a with
  | none => rfl
  | some p => rfl
set_option maxRecDepth 100000 in
set_option maxHeartbeats 16000000 in
theorem tidy_any (N sb : Nat) (v : Value) (xs U : List Int) (cl : Nat) (w : World) (hU : U.length ≤ 100000000) (hl : xs.length < 1000000000) (hsb : SB StK sb [v, .int .i64 (cl : Int)] w) (ho : OwnL EI N w v xs) (hne : ∀ g, v.ownBlock = some g → sb ≠ g) (hin : ∀ x ∈ xs, x ∈ U) : Calls Try.prog 54 #[.pointer (some ⟨sb, 0, none⟩)] w (RsPost w N sb v U (fun ys => ys = tidyP xs)) := by
  obtain ⟨va, vc, rfl, -, -, -⟩ := ho.form
  obtain ⟨n, hn⟩ : ∃ y, xs.length = y := ⟨_, rfl⟩
  rw [hn] at ho hne hsb ⊢
  have HS : Hid (SB StK sb [.slice va n vc, .int .i64 (cl : Int)] w) := hsb
  have HO : Hid (OwnL EI N w (.slice va n vc) xs) := ho
  have HNE : Hid (∀ g, (Value.slice va n vc).ownBlock = some g → sb ≠ g) := hne
  have HN : Hid (xs.length = n ∧ n < 1000000000 ∧ U.length ≤ 100000000 ∧ ∀ x ∈ xs, x ∈ U) := ⟨hn, by omega, hU, hin⟩
  have c0 : w.cell? ⟨sb, 0, none⟩ = some (.slice va n vc) := hsb.cell 0
  clear hU hl hsb ho hne hin hn
  go_enter Try.func54, Try.ntmps54
  go_wp2_with fail
  refine (sort_any N va n vc xs w HO.out HN.out.2.1).mono ?_
  rintro e w2 ⟨rfl, ho2, hg2⟩
  obtain ⟨ys, hys⟩ : ∃ y, (xs.mergeSort fun x y => decide (x ≤ y)) = y := ⟨_, rfl⟩
  rw [hys] at ho2
  have HYS : Hid ((xs.mergeSort fun x y => decide (x ≤ y)) = ys) := hys
  have HO2 : Hid (OwnL EI N w2 (.slice va n vc) ys) := ho2
  have HS2 : Hid (SB StK sb [.slice va n vc, .int .i64 (cl : Int)] w2) := HS.out.blk (hg2.block sb HS.out.lt (fun e => HNE.out sb e.symm rfl))
  have HK2 : Hid (Kf (fpT sb (.slice va n vc)) w w2) := Kf.of_grown hg2 (fun g e => .inr e)
  have c0 : w2.cell? ⟨sb, 0, none⟩ = some (.slice va n vc) := HS2.out.cell 0
  clear ho2 hg2 hys c0
  have c0 : w2.cell? ⟨sb, 0, none⟩ = some (.slice va n vc) := HS2.out.cell 0
  go_wp2_with fail
  refine (comp_any N va n vc ys w2 HO2.out HN.out.2.1).mono ?_
  rintro e w3 ⟨rfl, ho3, hg3⟩
  obtain ⟨zs, hzs⟩ : ∃ y, Lib.compact ys = y := ⟨_, rfl⟩
  have HZ : Hid (tidyP xs = zs) := by show tidyP xs = zs; unfold tidyP; rw [HYS.out]; exact hzs
  rw [hzs] at ho3 hg3 ⊢
  obtain ⟨m, hm⟩ : ∃ y, zs.length = y := ⟨_, rfl⟩
  rw [hm] at ho3 hg3 ⊢
  have HM : Hid (zs.length = m ∧ m ≤ U.length) := ⟨hm, by rw [← hm, ← HZ.out]; exact tidy_len HN.out.2.2.2⟩
  have HO3 : Hid (OwnL EI N w3 (.slice va m vc) zs) := ho3
  have HNE3 : Hid (∀ g, (Value.slice va m vc).ownBlock = some g → sb ≠ g) := fun g e => HNE.out g (by rw [← e]; exact comp_own)
  have HS3 : Hid (SB StK sb [.slice va n vc, .int .i64 (cl : Int)] w3) := HS2.out.blk (hg3.block sb HS2.out.lt (fun e => HNE3.out sb e.symm rfl))
  have HK3 : Hid (Kf (fpT sb (.slice va n vc)) w w3) := HK2.out.trans (Kf.of_grown hg3 (F := fpT sb (.slice va n vc)) (fun g e => .inr (by rw [← e]; exact comp_own))) (fun _ _ e => e)
  have c1 : w3.cell? ⟨sb, 0, none⟩ = some (.slice va n vc) := HS3.out.cell 0
  have f1 : w3.frozen? ⟨sb, 0, none⟩ = false := HS3.out.fro 0
  have hk4 := Ko.set w3 sb 0 (.slice va m vc)
  have HS4 : Hid (SB StK sb [.slice va m vc, .int .i64 (cl : Int)] (w3.setCell ⟨sb, 0, none⟩ (.slice va m vc))) := HS3.out.set 0 _ rfl
  have HK4 : Hid (Kf (fpT sb (.slice va n vc)) w (w3.setCell ⟨sb, 0, none⟩ (.slice va m vc))) := HK3.out.trans (Kf.of_ko hk4 (F := fpT sb (.slice va n vc)) (fun _ => .inl rfl)) (fun _ _ e => e)
  have HO4 : Hid (OwnL EI N (w3.setCell ⟨sb, 0, none⟩ (.slice va m vc)) (.slice va m vc) zs) := HO3.out.blk (fun g e => hk4.block g (fun c => HNE3.out g e c.symm))
  clear ho3 hg3 hzs hm c0 hk4
  go_upto_region 2 with fail
  obtain ⟨w4, hw4⟩ : ∃ y, w3.setCell ⟨sb, 0, none⟩ (.slice va m vc) = y := ⟨_, rfl⟩
  rw [hw4] at HS4 HK4 HO4 ⊢
  have c1 : w4.cell? ⟨sb, 0, none⟩ = some (.slice va m vc) := HS4.out.cell 0
  have d1 : w4.cell? ⟨sb, 1, none⟩ = some (.int .i64 (cl : Int)) := HS4.out.cell 1
  have f1 : w4.frozen? ⟨sb, 1, none⟩ = false := HS4.out.fro 1
  have hk5 := Ko.set w4 sb 1 (.int .i64 (m : Int))
  have HE : Hid (RsPost w N sb (.slice va n vc) U (fun ys => ys = tidyP xs) (.returned (.tuple #[])) (w4.setCell ⟨sb, 1, none⟩ (.int .i64 (m : Int)))) := ⟨rfl, .slice va m vc, zs, ⟨⟨m, HS4.out.set 1 _ rfl, by have := HM.out; omega, HM.out.2⟩, HO4.out.blk (fun g e => hk5.block g (fun c => HNE3.out g e c.symm)), HNE3.out, fun x hx => HN.out.2.2.2 x (((tidy_ok xs).2 x).1 (by rw [HZ.out]; exact hx))⟩, HZ.out.symm, HK4.out.trans (Kf.of_ko hk5 (F := fpT sb (.slice va n vc)) (fun _ => .inl rfl)) (fun _ _ e => e), fun g e => .inl (by rw [← e]; exact comp_own)⟩
  clear hw4 hk5 HS3 HK3 HO3
  go_wp2_with fail
  go_end0
  exact HE.out
end Go.Proofs.Ythhdpfgepjmgkaa.Dj
