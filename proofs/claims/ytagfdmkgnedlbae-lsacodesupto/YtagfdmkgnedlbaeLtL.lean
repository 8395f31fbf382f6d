/- lsaSpoil: what it leaves. -/
import Derived.Test.YtagfdmkgnedlbaeLtJ
import Derived.Test.YtagfdmkgnedlbaeLtA
import Derived.Test.YtagfdmkgnedlbaeLsU
namespace Go.Proofs.Ytagfdmkgnedlbae.Ls
open Go.ChangeShapes Go.WideShapes Go.ChangeAt Go.RowKit Go.Joins Go.Proofs.Ytagfdmkgnedlbae.PM Go.Proofs.Ytagfdmkgnedlbae.Ask
set_option linter.unusedVariables false

theorem tcs_set (k : IntKind) (a b d : Int) : ∀ (xs : List (Int × Int × Int)) (j : Nat), tcs k (xs.set j (a, b, d)) = (((tcs k xs).set (j * 3) (.int k a)).set (j * 3 + 1) (.int .i64 b)).set (j * 3 + 2) (.int .i64 d)
  | [], j => by simp [tcs]
  | x :: xs, 0 => by simp [tcs]
  | x :: xs, j + 1 => by
    have ih := tcs_set k a b d xs j
    have e : ∀ zs : List (Int × Int × Int), tcs k (x :: zs) = .int k x.1 :: .int .i64 x.2.1 :: .int .i64 x.2.2 :: tcs k zs := fun _ => rfl
    rw [List.set_cons_succ, e, e, ih, show (j + 1) * 3 = j * 3 + 1 + 1 + 1 by omega]
    rfl
theorem OwnT.set3 {N g n c j : Nat} {T : TypeId} {k : IntKind} {W : World} {xs : List (Int × Int × Int)} (h : OwnT N T k W (.slice (some ⟨g, 0, none⟩) n c) xs) (a b d : Int) : OwnT N T k (((W.setCell ⟨g, j * 3, none⟩ (.int k a)).setCell ⟨g, j * 3 + 1, none⟩ (.int .i64 b)).setCell ⟨g, j * 3 + 2, none⟩ (.int .i64 d)) (.slice (some ⟨g, 0, none⟩) n c) (xs.set j (a, b, d)) := by
  rcases h.row.2 with ⟨h1, -⟩ | ⟨g', cap', cur, h1, h2, h3, h4, h5, h6, h7⟩
  · cases h1
  · cases h1
    have e1 := heap_setCell_same W g (j * 3) cur _ (.int k a) h3
    have e2 := heap_setCell_same _ g (j * 3 + 1) _ _ (.int .i64 b) e1
    have e3 := heap_setCell_same _ g (j * 3 + 2) _ _ (.int .i64 d) e2
    refine ⟨tcs_len _ _, .inr ⟨g, c, _, by rw [List.length_set], h2, e3, by rw [List.length_set]; exact h4, h5, by simpa using h6, ?_⟩⟩
    rw [List.length_set, tcs_set, ← h7]
    simp only [Array.toList_setIfInBounds, List.take_set]
theorem OwnT.at3 {N g n c j : Nat} {T : TypeId} {k : IntKind} {W : World} {xs : List (Int × Int × Int)} (h : OwnT N T k W (.slice (some ⟨g, 0, none⟩) n c) xs) (hj : j < xs.length) : W.cell? ⟨g, j * 3, none⟩ = some (.int k xs[j].1) ∧ W.cell? ⟨g, j * 3 + 1, none⟩ = some (.int .i64 xs[j].2.1) ∧ W.cell? ⟨g, j * 3 + 2, none⟩ = some (.int .i64 xs[j].2.2) ∧ ∀ i, W.frozen? ⟨g, i, none⟩ = false := by
  have t := tcs_at k xs j hj
  rcases h.row.2 with ⟨h1, -⟩ | ⟨g', cap', cur, h1, h2, h3, h4⟩
  · cases h1
  · have hr := h.row
    cases h1
    refine ⟨?_, ?_, ?_, fun i => by simp [World.frozen?, h3]⟩
    · rw [hr.cellAt _ (by omega)]; exact t.1
    · rw [hr.cellAt _ (by omega)]; exact t.2.1
    · rw [hr.cellAt _ (by omega)]; exact t.2.2
theorem OwnT.some {N : Nat} {T : TypeId} {k : IntKind} {W : World} {v : Value} {xs : List (Int × Int × Int)} (h : OwnT N T k W v xs) (h0 : 0 < xs.length) : ∃ g c, v = .slice (some ⟨g, 0, none⟩) xs.length c ∧ g < W.heap.size ∧ N ≤ g := by
  rcases h.row.2 with ⟨h1, h2⟩ | ⟨g', cap', cur, h1, h2, h3, h4⟩
  · omega
  · exact ⟨g', cap', h1, (Array.getElem?_eq_some_iff.1 h3).1, h2⟩
/-- what lsaSpoil works on: its box, and the two lists -/
structure SB (M : Nat) (W0 : World) (y : It) (lv sv : Value) (xs ss : List (Int × Int × Int)) (W : World) : Prop where
  bx : LBox W0.heap.size y.x.kind y.x.area y.x.origin y.x.pa y.x.pn y.x.seq y.x.age lv sv y.x.cost y.x.tag W
  fx : ∀ i, W.frozen? ⟨W0.heap.size, i, none⟩ = false
  ok : OwnT M 54 .i64 W lv xs
  os : OwnT M 56 .u32 W sv ss
  ak : ∀ g, lv.ownBlock = some g → g ∈ y.bl ∧ g < W0.heap.size ∨ W0.heap.size < g
  ats : ∀ g, sv.ownBlock = some g → g ∈ y.bl ∧ g < W0.heap.size ∨ W0.heap.size < g
  ap : ∀ g, lv.ownBlock = some g → ¬ sv.ownBlock = some g
  fr : Fr y.bl W0 W
  sz : W0.heap.size < W.heap.size
section
variable {M : Nat} {W0 W W' : World} {y : It} {lv sv : Value} {xs ss : List (Int × Int × Int)}
theorem SB.ne1 (h : SB M W0 y lv sv xs ss W) {g : Nat} (e : lv.ownBlock = some g) : ¬ g = W0.heap.size := fun e2 => by
  rcases h.ak g e with h1 | h1 <;> omega
theorem SB.ne2 (h : SB M W0 y lv sv xs ss W) {g : Nat} (e : sv.ownBlock = some g) : ¬ g = W0.heap.size := fun e2 => by
  rcases h.ats g e with h1 | h1 <;> omega
theorem SB.next (h : SB M W0 y lv sv xs ss W) (hb : Below W.heap.size W W') : SB M W0 y lv sv xs ss W' :=
  ⟨h.bx.blk (hb.block _ h.sz), fun i => (World.frozen?_of_block (w := W) (hb.block W0.heap.size h.sz)).trans (h.fx i), h.ok.bel hb, h.os.bel hb, h.ak, h.ats, h.ap, h.fr.bel hb, Nat.lt_of_lt_of_le h.sz hb.size⟩
theorem SB.storeL {g n c j : Nat} (h : SB M W0 y (.slice (some ⟨g, 0, none⟩) n c) sv xs ss W) (a b d : Int) : SB M W0 y (.slice (some ⟨g, 0, none⟩) n c) sv (xs.set j (a, b, d)) ss (((W.setCell ⟨g, j * 3, none⟩ (.int .i64 a)).setCell ⟨g, j * 3 + 1, none⟩ (.int .i64 b)).setCell ⟨g, j * 3 + 2, none⟩ (.int .i64 d)) := by
  have hg := h.ne1 (g := g) rfl
  have hin : g ∈ y.bl ∨ W0.heap.size ≤ g := by
    rcases h.ak g rfl with h1 | h1
    · exact Or.inl h1.1
    · exact Or.inr (by omega)
  have hob : ∀ b', ¬ b' = g → (((W.setCell ⟨g, j * 3, none⟩ (.int .i64 a)).setCell ⟨g, j * 3 + 1, none⟩ (.int .i64 b)).setCell ⟨g, j * 3 + 2, none⟩ (.int .i64 d)).heap[b']? = W.heap[b']? := fun b' hb => by
    repeat rw [Below.heap_setCell _ _ _ _ (by show b' ≠ g; exact hb)]
  have hob0 := hob W0.heap.size (fun e => hg e.symm)
  refine ⟨h.bx.blk hob0, fun i => (World.frozen?_of_block (w := W) hob0).trans (h.fx i), h.ok.set3 a b d, h.os.blk (fun b2 e => hob b2 (fun e2 => h.ap b2 (by rw [e2]; rfl) e)), h.ak, h.ats, h.ap, ((h.fr.set _ hin).set _ hin).set _ hin, by simpa using h.sz⟩
theorem SB.appL {w' : World} {v' : Value} {z : Int × Int × Int} (h : SB M W0 y lv sv xs ss W) (ho : OwnT M 54 .i64 w' v' (xs ++ [z])) (hg : W.grownBy w' lv.ownBlock) (hat : v'.ownBlock = lv.ownBlock ∨ v'.ownBlock = some W.heap.size) : LBox W0.heap.size y.x.kind y.x.area y.x.origin y.x.pa y.x.pn y.x.seq y.x.age lv sv y.x.cost y.x.tag w' ∧ (∀ i, w'.frozen? ⟨W0.heap.size, i, none⟩ = false) ∧ SB M W0 y v' sv (xs ++ [z]) ss (w'.setCell ⟨W0.heap.size, 7, none⟩ v') := by
  have hb0 : w'.heap[W0.heap.size]? = W.heap[W0.heap.size]? := hg.block _ h.sz (fun e => h.ne1 e.symm rfl)
  have hbx := h.bx.blk hb0
  have hfx : ∀ i, w'.frozen? ⟨W0.heap.size, i, none⟩ = false := fun i => (World.frozen?_of_block (w := W) hb0).trans (h.fx i)
  have hv : ∀ g, v'.ownBlock = some g → (g ∈ y.bl ∧ g < W0.heap.size ∨ W0.heap.size < g) := fun g e => by
    rcases hat with h1 | h1
    · rw [h1] at e; exact h.ak g e
    · rw [h1] at e; cases e; exact Or.inr h.sz
  have hne : ∀ g, v'.ownBlock = some g → ¬ g = W0.heap.size := fun g e e2 => by rcases hv g e with h1 | h1 <;> omega
  have hfr : Fr y.bl W0 w' := h.fr.grown hg (fun g e => by
    rcases h.ak g e with h1 | h1
    · exact Or.inl h1.1
    · exact Or.inr (by omega))
  have hoth : OwnT M 56 .u32 w' sv ss := h.os.grown hg (fun g e e2 => h.ap g e2 e)
  have hap : ∀ g, v'.ownBlock = some g → ¬ sv.ownBlock = some g := fun g e1 e2 => by
    rcases hat with h1 | h1
    · rw [h1] at e1; exact h.ap g e1 e2
    · rw [h1] at e1; cases e1; exact absurd (h.os.row.lt _ e2).2 (by omega)
  have hset : ∀ b', ¬ b' = W0.heap.size → (w'.setCell ⟨W0.heap.size, 7, none⟩ v').heap[b']? = w'.heap[b']? := fun b' hb => Below.heap_setCell _ _ _ _ (by show b' ≠ W0.heap.size; exact hb)
  refine ⟨hbx, hfx, ⟨?_, fun i => by rw [World.frozen?_setCell]; exact hfx i, ho.blk (fun g e => hset g (hne g e)), hoth.blk (fun g e => hset g (h.ne2 e)), hv, h.ats, hap, hfr.set _ (Or.inr (Nat.le_refl _)), by simpa using Nat.lt_of_lt_of_le h.sz hg.size⟩⟩
  obtain ⟨c0, c1, c2, c3, c4, c5, c6, c7, c8, c9, c10⟩ := hbx
  constructor
  all_goals first
    | exact World.cell?_setCell_same' _ _ _ (by rw [c7]; rfl)
    | (rw [World.cell?_setCell_other _ _ _ _ (by intro e; injection e with _ e2 _; cases e2)]; assumption)
theorem SB.storeS {g n c j : Nat} (h : SB M W0 y lv (.slice (some ⟨g, 0, none⟩) n c) xs ss W) (a b d : Int) : SB M W0 y lv (.slice (some ⟨g, 0, none⟩) n c) xs (ss.set j (a, b, d)) (((W.setCell ⟨g, j * 3, none⟩ (.int .u32 a)).setCell ⟨g, j * 3 + 1, none⟩ (.int .i64 b)).setCell ⟨g, j * 3 + 2, none⟩ (.int .i64 d)) := by
  have hg := h.ne2 (g := g) rfl
  have hin : g ∈ y.bl ∨ W0.heap.size ≤ g := by
    rcases h.ats g rfl with h1 | h1
    · exact Or.inl h1.1
    · exact Or.inr (by omega)
  have hob : ∀ b', ¬ b' = g → (((W.setCell ⟨g, j * 3, none⟩ (.int .u32 a)).setCell ⟨g, j * 3 + 1, none⟩ (.int .i64 b)).setCell ⟨g, j * 3 + 2, none⟩ (.int .i64 d)).heap[b']? = W.heap[b']? := fun b' hb => by
    repeat rw [Below.heap_setCell _ _ _ _ (by show b' ≠ g; exact hb)]
  have hob0 := hob W0.heap.size (fun e => hg e.symm)
  refine ⟨h.bx.blk hob0, fun i => (World.frozen?_of_block (w := W) hob0).trans (h.fx i), h.ok.blk (fun b2 e => hob b2 (fun e2 => h.ap b2 e (by rw [e2]; rfl))), h.os.set3 a b d, h.ak, h.ats, h.ap, ((h.fr.set _ hin).set _ hin).set _ hin, by simpa using h.sz⟩
theorem SB.appS {w' : World} {v' : Value} {z : Int × Int × Int} (h : SB M W0 y lv sv xs ss W) (ho : OwnT M 56 .u32 w' v' (ss ++ [z])) (hg : W.grownBy w' sv.ownBlock) (hat : v'.ownBlock = sv.ownBlock ∨ v'.ownBlock = some W.heap.size) : LBox W0.heap.size y.x.kind y.x.area y.x.origin y.x.pa y.x.pn y.x.seq y.x.age lv sv y.x.cost y.x.tag w' ∧ (∀ i, w'.frozen? ⟨W0.heap.size, i, none⟩ = false) ∧ SB M W0 y lv v' xs (ss ++ [z]) (w'.setCell ⟨W0.heap.size, 8, none⟩ v') := by
  have hb0 : w'.heap[W0.heap.size]? = W.heap[W0.heap.size]? := hg.block _ h.sz (fun e => h.ne2 e.symm rfl)
  have hbx := h.bx.blk hb0
  have hfx : ∀ i, w'.frozen? ⟨W0.heap.size, i, none⟩ = false := fun i => (World.frozen?_of_block (w := W) hb0).trans (h.fx i)
  have hv : ∀ g, v'.ownBlock = some g → (g ∈ y.bl ∧ g < W0.heap.size ∨ W0.heap.size < g) := fun g e => by
    rcases hat with h1 | h1
    · rw [h1] at e; exact h.ats g e
    · rw [h1] at e; cases e; exact Or.inr h.sz
  have hne : ∀ g, v'.ownBlock = some g → ¬ g = W0.heap.size := fun g e e2 => by rcases hv g e with h1 | h1 <;> omega
  have hfr : Fr y.bl W0 w' := h.fr.grown hg (fun g e => by
    rcases h.ats g e with h1 | h1
    · exact Or.inl h1.1
    · exact Or.inr (by omega))
  have hoth : OwnT M 54 .i64 w' lv xs := h.ok.grown hg (fun g e e2 => h.ap g e e2)
  have hap : ∀ g, lv.ownBlock = some g → ¬ v'.ownBlock = some g := fun g e1 e2 => by
    rcases hat with h1 | h1
    · rw [h1] at e2; exact h.ap g e1 e2
    · rw [h1] at e2; cases e2; exact absurd (h.ok.row.lt _ e1).2 (by omega)
  have hset : ∀ b', ¬ b' = W0.heap.size → (w'.setCell ⟨W0.heap.size, 8, none⟩ v').heap[b']? = w'.heap[b']? := fun b' hb => Below.heap_setCell _ _ _ _ (by show b' ≠ W0.heap.size; exact hb)
  refine ⟨hbx, hfx, ⟨?_, fun i => by rw [World.frozen?_setCell]; exact hfx i, hoth.blk (fun g e => hset g (h.ne1 e)), ho.blk (fun g e => hset g (hne g e)), h.ak, hv, hap, hfr.set _ (Or.inr (Nat.le_refl _)), by simpa using Nat.lt_of_lt_of_le h.sz hg.size⟩⟩
  obtain ⟨c0, c1, c2, c3, c4, c5, c6, c7, c8, c9, c10⟩ := hbx
  constructor
  all_goals first
    | exact World.cell?_setCell_same' _ _ _ (by rw [c8]; rfl)
    | (rw [World.cell?_setCell_other _ _ _ _ (by intro e; injection e with _ e2 _; cases e2)]; assumption)
end
set_option maxRecDepth 100000 in
set_option maxHeartbeats 16000000 in
theorem spoil_any (M : Nat) (y : It) (mark : Int) (W : World) (hM : M ≤ W.heap.size) (hit : ItOk M W y) (hnd : y.bl.Nodup) (hbig : y.x.links.length ≤ 1000 ∧ y.x.stubs.length ≤ 1000) :
    Calls Try.prog 54 #[lsaV y.x y.la y.lc y.sa y.sc, .int .i64 mark] W fun e w' => (∃ u, e = .returned u) ∧ Fr y.bl W w' := by
  obtain ⟨i0, hi, hz0, hz1, hz2⟩ := info_parts infoLk
  obtain ⟨i2, hi2, hy0, hy1, hy2⟩ := info_parts infoSt
  obtain ⟨n1, hn1⟩ : ∃ n, y.x.links.length = n := ⟨_, rfl⟩
  obtain ⟨n2, hn2⟩ : ∃ n, y.x.stubs.length = n := ⟨_, rfl⟩
  have HN1 : Hid (y.x.links.length = n1) := hn1
  have HN2 : Hid (y.x.stubs.length = n2) := hn2
  rw [hn1, hn2] at hbig
  obtain ⟨hb1, hb2⟩ := hbig
  unfold lsaV
  rw [hn1, hn2]
  obtain ⟨w1, hw1⟩ : ∃ w1, W.alloc (Obj.cells #[.int .i64 y.x.kind, .int .i64 y.x.area, .int .i64 y.x.origin, .int .u32 y.x.pa, .int .i64 y.x.pn, .int .i64 y.x.seq, .int .i64 y.x.age, .slice y.la n1 y.lc, .slice y.sa n2 y.sc, .int .i64 y.x.cost, .int .i64 y.x.tag] 28) = w1 := ⟨_, rfl⟩
  have HS0 : Hid (SB M W y (.slice y.la n1 y.lc) (.slice y.sa n2 y.sc) y.x.links y.x.stubs w1) := by
    obtain ⟨b1, b2⟩ := lbox_new hw1
    have hl1 := hit.lk
    have hs1 := hit.st
    unfold It.lv at hl1
    unfold It.sv at hs1
    rw [hn1] at hl1
    rw [hn2] at hs1
    have e1 : y.lv = .slice y.la n1 y.lc := by unfold It.lv; rw [hn1]
    have e2 : y.sv = .slice y.sa n2 y.sc := by unfold It.sv; rw [hn2]
    refine ⟨b1, fun i => by rw [← hw1]; simp, hl1.bel b2, hs1.bel b2, fun g e => Or.inl ?_, fun g e => Or.inl ?_, fun g e3 e4 => ?_, Fr.bel (Fr.refl _ _) b2, by rw [← hw1]; simp⟩
    · have h3 : g ∈ y.bl := It.inL (by rw [e1]; exact e)
      exact ⟨h3, (hit.lt g h3).2⟩
    · have h3 : g ∈ y.bl := It.inS (by rw [e2]; exact e)
      exact ⟨h3, (hit.lt g h3).2⟩
    · exact It.apart hnd (by rw [e1]; exact e3) (by rw [e2]; exact e4)
  clear hit hnd hn1 hn2
  go_enter Try.func54, Try.ntmps54
  go_upto_region 1 with fail
  clear hw1
  have c7 := HS0.out.bx.c7
  go_wp2_with fail
  clear c7
  go_loopw [10] (fun iv wr => ∃ (k : Nat) (xs : List (Int × Int × Int)), k ≤ n1 ∧ iv = .int .i64 (k : Int) ∧ xs.length = n1 ∧ SB M W y (.slice y.la n1 y.lc) (.slice y.sa n2 y.sc) xs y.x.stubs wr) (fun i _ => n1 - (intOf i).toNat)
  case atStart => exact ⟨0, y.x.links, by omega, rfl, HN1.out, HS0.out⟩
  case round =>
    obtain ⟨k, xs, hk, rfl, hxl, hsb⟩ := hrel
    have HXL : Hid (xs.length = n1) := hxl
    have HSB : Hid (SB M W y (.slice y.la n1 y.lc) (.slice y.sa n2 y.sc) xs y.x.stubs wr) := hsb
    clear hsb hxl HS0
    have c7 := HSB.out.bx.c7
    by_cases hlt : k < n1
    · have hkd : k < xs.length := by rw [HXL.out]; exact hlt
      obtain ⟨g, c, hv, hgl, hgM⟩ := HSB.out.ok.some (by omega)
      rw [HXL.out] at hv
      rw [hv] at HSB c7 ⊢
      obtain ⟨a0, a1, a2, hfz⟩ := HSB.out.ok.at3 hkd
      have HS2 : Hid (SB M W y (.slice (some ⟨g, 0, none⟩) n1 c) (.slice y.sa n2 y.sc) (xs.set k (mark, 0, 0)) y.x.stubs (((wr.setCell ⟨g, k * 3, none⟩ (.int .i64 mark)).setCell ⟨g, k * 3 + 1, none⟩ (.int .i64 0)).setCell ⟨g, k * 3 + 2, none⟩ (.int .i64 0))) := HSB.out.storeL mark 0 0
      have HV : Hid (Value.slice y.la n1 y.lc = .slice (some ⟨g, 0, none⟩) n1 c) := hv
      have hkk : (k : Int) < n1 := by omega
      have kk0 : (0 : Int) ≤ k := by omega
      clear HSB hv
      go_wp2_with fail
      exact ⟨⟨k + 1, xs.set k (mark, 0, 0), by omega, by simp, by rw [List.length_set]; exact HXL.out, HS2.out⟩, by simp [intOf]; omega⟩
    · obtain rfl : n1 = k := by omega
      have c8 := HSB.out.bx.c8
      go_wp2_with fail
      clear c7 c8
      go_loopw [23] (fun iv wr => ∃ (k : Nat) (ss : List (Int × Int × Int)), k ≤ n2 ∧ iv = .int .i64 (k : Int) ∧ ss.length = n2 ∧ SB M W y (.slice y.la n1 y.lc) (.slice y.sa n2 y.sc) xs ss wr) (fun i _ => n2 - (intOf i).toNat)
      case atStart => exact ⟨0, y.x.stubs, by omega, rfl, HN2.out, HSB.out⟩
      case round =>
        obtain ⟨k, ss, hk2, rfl, hxl, hsb⟩ := hrel
        have HSL : Hid (ss.length = n2) := hxl
        have HSC : Hid (SB M W y (.slice y.la n1 y.lc) (.slice y.sa n2 y.sc) xs ss wr) := hsb
        clear hsb hxl HSB
        have c8 := HSC.out.bx.c8
        by_cases hlt2 : k < n2
        · have hkd : k < ss.length := by rw [HSL.out]; exact hlt2
          obtain ⟨g, c, hv, hgl, hgM⟩ := HSC.out.os.some (by omega)
          rw [HSL.out] at hv
          rw [hv] at HSC c8 ⊢
          obtain ⟨a0, a1, a2, hfz⟩ := HSC.out.os.at3 hkd
          have HS2 : Hid (SB M W y (.slice y.la n1 y.lc) (.slice (some ⟨g, 0, none⟩) n2 c) xs (ss.set k (0, 0, mark)) (((wr.setCell ⟨g, k * 3, none⟩ (.int .u32 0)).setCell ⟨g, k * 3 + 1, none⟩ (.int .i64 0)).setCell ⟨g, k * 3 + 2, none⟩ (.int .i64 mark))) := HSC.out.storeS 0 0 mark
          have HV : Hid (Value.slice y.sa n2 y.sc = .slice (some ⟨g, 0, none⟩) n2 c) := hv
          have hkk : (k : Int) < n2 := by omega
          have kk0 : (0 : Int) ≤ k := by omega
          clear HSC hv
          go_wp2_with fail
          exact ⟨⟨k + 1, ss.set k (0, 0, mark), by omega, by simp, by rw [List.length_set]; exact HSL.out, HS2.out⟩, by simp [intOf]; omega⟩
        · obtain rfl : n2 = k := by omega
          go_wp2_with fail
          clear c8
          go_loopw [6] (fun jv wr => ∃ (j : Nat) (lv sv : Value) (xs ss : List (Int × Int × Int)), j ≤ 70 ∧ jv = .int .i64 (j : Int) ∧ xs.length = n1 + j ∧ ss.length = n2 + j ∧ SB M W y lv sv xs ss wr) (fun i _ => 70 - (intOf i).toNat)
          case atStart => exact ⟨0, _, _, xs, ss, by omega, rfl, HXL.out, HSL.out, HSC.out⟩
          case round =>
            obtain ⟨j, lv, sv, xs, ss, hj, rfl, hxl, hsl, hsb⟩ := hrel
            have HXJ : Hid (xs.length = n1 + j) := hxl
            have HSJ : Hid (ss.length = n2 + j) := hsl
            have HSD : Hid (SB M W y lv sv xs ss wr) := hsb
            clear hxl hsl hsb HSC HXL HSL
            by_cases hjl : j < 70
            · have hjj : (j : Int) < 70 := by omega
              have hg1 : xs.length ≤ 1048576 := by rw [HXJ.out]; omega
              have hg2 : ss.length ≤ 1048576 := by rw [HSJ.out]; omega
              obtain ⟨wA, hwA⟩ : ∃ wA, wr.alloc (Obj.cells #[.int .i64 mark, .int .i64 0, .int .i64 0] 54) = wA := ⟨_, rfl⟩
              have HSA : Hid (SB M W y lv sv xs ss wA) := HSD.out.next (by rw [← hwA]; exact (Below.refl _ wr).alloc (Nat.le_refl _) _)
              have HWA : Hid (wr.alloc (Obj.cells #[.int .i64 mark, .int .i64 0, .int .i64 0] 54) = wA) := hwA
              have hMA : M ≤ wA.heap.size := Nat.le_trans hM HSA.out.fr.size
              have d7 := HSD.out.bx.c7
              go_wp2_with (at_builtin; refine list_app1K rfl _ _ 25 54 rfl .i64 i0 _ Try.underlying25 hi hz0 hz1 (by omega) rfl M lv xs (mark, 0, 0) hg1 (w := wr) wA rfl HSA.out.ok rfl hMA HWA.out.symm ?_)
              intro v' w' ho hg hat hkeep
              obtain ⟨va', vc', hv'⟩ := ho.out.form
              obtain ⟨q, hq⟩ : ∃ q, (xs ++ [(mark, (0 : Int), (0 : Int))]).length = q := ⟨_, rfl⟩
              rw [hq] at hv'
              subst hv'
              clear hq
              obtain ⟨hbx, hfx, hnx⟩ := HSA.out.appL ho.out hg.out hat.out
              have e7 := hbx.c7
              have HS2 : Hid (SB M W y (.slice va' q vc') sv (xs ++ [(mark, 0, 0)]) ss (w'.setCell ⟨W.heap.size, 7, none⟩ (.slice va' q vc'))) := hnx
              clear ho hg hat hkeep HSA HWA hwA hMA HSD d7 hbx hnx
              obtain ⟨wX, hwX⟩ : ∃ wX, w'.setCell ⟨W.heap.size, 7, none⟩ (.slice va' q vc') = wX := ⟨_, rfl⟩
              rw [hwX] at HS2
              obtain ⟨wB, hwB⟩ : ∃ wB, wX.alloc (Obj.cells #[.int .u32 0, .int .i64 0, .int .i64 mark] 56) = wB := ⟨_, rfl⟩
              have HSB2 : Hid (SB M W y (.slice va' q vc') sv (xs ++ [(mark, 0, 0)]) ss wB) := HS2.out.next (by rw [← hwB]; exact (Below.refl _ wX).alloc (Nat.le_refl _) _)
              have HWB : Hid (wX.alloc (Obj.cells #[.int .u32 0, .int .i64 0, .int .i64 mark] 56) = wB) := hwB
              have hMB : M ≤ wB.heap.size := Nat.le_trans hM HSB2.out.fr.size
              have d8 := HS2.out.bx.c8
              go_wp2_with (at_builtin; refine list_app1K rfl _ _ 26 56 rfl .u32 i2 _ Try.underlying26 hi2 hy0 hy1 (by omega) rfl M sv ss (0, 0, mark) hg2 (w := wX) wB rfl HSB2.out.os rfl hMB HWB.out.symm ?_)
              intro v2 w2 ho hg hat hkeep
              obtain ⟨va2, vc2, hv'⟩ := ho.out.form
              obtain ⟨q2, hq⟩ : ∃ q, (ss ++ [((0 : Int), (0 : Int), mark)]).length = q := ⟨_, rfl⟩
              rw [hq] at hv'
              subst hv'
              clear hq
              obtain ⟨hbx, hfx2, hnx⟩ := HSB2.out.appS ho.out hg.out hat.out
              have e8 := hbx.c8
              have HS3 : Hid (SB M W y (.slice va' q vc') (.slice va2 q2 vc2) (xs ++ [(mark, 0, 0)]) (ss ++ [(0, 0, mark)]) (w2.setCell ⟨W.heap.size, 8, none⟩ (.slice va2 q2 vc2))) := hnx
              clear ho hg hat hkeep HSB2 HWB hwB hMB HS2 d8 hbx hnx hwX e7 hfx
              go_wp2_with fail
              exact ⟨⟨j + 1, _, _, xs ++ [(mark, 0, 0)], ss ++ [(0, 0, mark)], by omega, by simp, by rw [List.length_append, HXJ.out]; rfl, by rw [List.length_append, HSJ.out]; rfl, HS3.out⟩, by simp [intOf]; omega⟩
            · obtain rfl : j = 70 := by omega
              have HFI : Hid (Fr y.bl W wr) := HSD.out.fr
              clear HSD
              go_wp2_with fail
              refine ⟨rfl, .tuple #[], ?_, ⟨_, rfl⟩, HFI.out⟩
              simp [results, Try.results54, go_sem]
end Go.Proofs.Ytagfdmkgnedlbae.Ls
