/- Patterns in memory; machine.repeat: what it builds. -/
import Derived.Test.YtagfdmkgnedlbagPoC
namespace Go.Proofs.Ytagfdmkgnedlbag.Po
open Go.ChangeShapes Go.WideShapes Go.ChangeAt Go.RowKit Go.Joins Go.Proofs.Ytagfdmkgnedlbag.Ge
set_option linter.unusedVariables false

/-- a pattern's parts lie below N -/
inductive PA (w : World) (N : Nat) : Pat → Option Addr → Prop
  | mk {k n : Int} {sub : List Pat} {a : Option Addr} (b o : Nat) (av : Nat → Option Addr) (cv : Nat → Nat) :
     (∀ i (h : i < sub.length), a = some ⟨b, o, none⟩ ∧ b < N ∧ w.cell? ⟨b, o + i * 3, none⟩ = some (.int .i64 sub[i].kind) ∧ w.cell? ⟨b, o + i * 3 + 1, none⟩ = some (.int .i64 sub[i].num) ∧ w.cell? ⟨b, o + i * 3 + 2, none⟩ = some (.slice (av i) sub[i].sub.length (cv i))) →
     (∀ i (h : i < sub.length), PA w N sub[i] (av i)) → PA w N (.mk k n sub) a
theorem PA.bel {w w' : World} {N : Nat} (hb : Below N w w') {p : Pat} {a : Option Addr} (h : PA w N p a) : PA w' N p a := by
  induction h with
  | mk b o av cv h1 h2 ih =>
    refine .mk b o av cv (fun i hi => ?_) ih
    obtain ⟨e, hl, c0, c1, c2⟩ := h1 i hi
    exact ⟨e, hl, (World.cell?_of_block (w := w) (hb.block b hl)).trans c0, (World.cell?_of_block (w := w) (hb.block b hl)).trans c1, (World.cell?_of_block (w := w) (hb.block b hl)).trans c2⟩
theorem PA.mono {w : World} {N M : Nat} (hm : N ≤ M) {p : Pat} {a : Option Addr} (h : PA w N p a) : PA w M p a := by
  induction h with
  | mk b o av cv h1 h2 ih => exact .mk b o av cv (fun i hi => by obtain ⟨e, hl, c⟩ := h1 i hi; exact ⟨e, by omega, c⟩) ih
/-- a pattern as a value -/
def pv (p : Pat) (a : Option Addr) (c : Nat) : Value := .agg #[.int .i64 p.kind, .int .i64 p.num, .slice a p.sub.length c]
/-- what building a pattern leaves in memory -/
def Bp (L : Lg) (z N bm : Nat) (S : List St) (e : Nat) (own : Option Nat) (w : World) (r : Ending) (w' : World) : Prop :=
  ∃ S' b own', r = .returned (.int .i64 ((b : Nat) : Int)) ∧ Built L z S S' b e ∧ Mc N w' bm S' own' ∧ Kw bm w own w' own'
/-- what building a pattern is to do -/
def Bc (p : Pat) (N bm : Nat) : Prop := ∀ (S : List St) (e : Nat) (own : Option Nat) (a : Option Addr) (c : Nat) (w : World), Mc N w bm S own → OkS S S.length → 2 ≤ S.length → e < S.length → S.length + 2 * sz p ≤ 1099511627775 → PA w N p a →
  Calls Try.prog 15 #[.pointer (some ⟨bm, 0, none⟩), pv p a c, .int .i64 (e : Int)] w (Bp (Lang p) (2 * sz p - 1) N bm S e own w)
theorem cell_three {W : World} {g : Nat} {x y z : Value} {T : TypeId} (h : W.heap[g]? = some (Obj.cells #[x, y, z] T)) : W.cell? ⟨g, 0, none⟩ = some x ∧ W.cell? ⟨g, 1, none⟩ = some y ∧ W.cell? ⟨g, 2, none⟩ = some z := ⟨(box_at h).1, (box_at h).1, (box_at h).1⟩
/-- a store into a machine's states -/
theorem mc_set {N bm : Nat} {w : World} {S : List St} {own : Option Nat} (h : Mc N w bm S own) {i j : Nat} (hi : i < S.length) (hj : j < 4) {u : Value} {y : St} (hy : ET.enc y = (ET.enc S[i]).set j u) : ∃ g c, own = some g ∧ w.cell? ⟨bm, 0, none⟩ = some (.slice (some ⟨g, 0, none⟩) S.length c) ∧ w.cell? ⟨g, i * 4 + j, none⟩ = (ET.enc S[i])[j]? ∧ w.frozen? ⟨g, i * 4 + j, none⟩ = false ∧ Mc N (w.setCell ⟨g, i * 4 + j, none⟩ u) bm (S.set i y) own ∧ Kw bm w own (w.setCell ⟨g, i * 4 + j, none⟩ u) own := by
  obtain ⟨v, h1, h2, h3⟩ := h.box
  obtain ⟨a, c, rfl, -, hn, hb⟩ := h2.form
  cases a with
  | none => have := (hn rfl).1; omega
  | some ad =>
    rcases h2.row.2 with ⟨e1, e2⟩ | ⟨g, c', cur, e1, e2, e3, e4⟩
    · cases e1
    · cases e1
      obtain ⟨q1, q2, q3, q4⟩ := h2.at0
      have hgo : own = some g := h3.symm
      have hne : bm ≠ g := fun e => h.ne (by rw [hgo, e])
      refine ⟨g, c, hgo, (box_at h1).1, q1 i hi j hj, q2 _, ⟨⟨_, (Below.heap_setCell w ⟨g, i * 4 + j, none⟩ u bm hne).trans h1, ?_, h3⟩, h.ne, h.lo⟩, ?_, .inl rfl, fun b hb hn ho => Below.heap_setCell w ⟨g, i * 4 + j, none⟩ u b (fun e => ho (by rw [hgo]; exact congrArg some e))⟩
      · exact h2.setc (E := ET) hi hj u y hy
      · exact (Below.refl _ w).setCell (p := ⟨g, i * 4 + j, none⟩) (Nat.zero_le _) u
set_option maxRecDepth 100000 in
set_option maxHeartbeats 4000000 in
theorem repeat_any (p : Pat) (N bm : Nat) (IH : Bc p N bm) (k : Int) (hk : k = 5 ∨ k = 6 ∨ k = 7) (n : Int) (S : List St) (e : Nat) (own : Option Nat) (a : Option Addr) (c : Nat) (w : World) (hM : Mc N w bm S own) (ho : OkS S S.length) (h2 : 2 ≤ S.length) (he : e < S.length) (hbig : S.length + 2 * (sz p + 1) ≤ 1099511627775) (hp : PA w N p a) :
    Calls Try.prog 21 #[.pointer (some ⟨bm, 0, none⟩), .int .i64 k, pv p a c, .int .i64 (e : Int)] w (Bp (Lang (.mk k n [p])) (2 * sz p) N bm S e own w) := by
  have HOK : Hid (OkS S S.length) := ho
  have hNb := hM.lo
  have hbl := hM.lt
  have hol := hM.olt
  have hszp := sz_pos p
  obtain ⟨pk, pn, psub⟩ := p
  have HIH : Hid (Bc (.mk pk pn psub) N bm) := IH
  obtain ⟨ln, hln⟩ : ∃ l, psub.length = l := ⟨_, rfl⟩
  unfold pv
  dsimp only [Pat.kind, Pat.num, Pat.sub]
  rw [hln]
  obtain ⟨w0, hw0⟩ : ∃ w0, w.alloc (Obj.cells #[.int .i64 pk, .int .i64 pn, .slice a ln c] 24) = w0 := ⟨_, rfl⟩
  have hb0 : Below w.heap.size w w0 := by rw [← hw0]; exact (Below.refl _ w).alloc (Nat.le_refl _) _
  have hx0 : w0.heap[w.heap.size]? = some (Obj.cells #[.int .i64 pk, .int .i64 pn, .slice a ln c] 24) := by rw [← hw0]; exact World.alloc_heap_new w _
  have hs0 : w0.heap.size = w.heap.size + 1 := by rw [← hw0]; simp
  have HM0 : Hid (Mc N w0 bm S own) := hM.bel hb0
  have HP : Hid (PA w0 N (.mk pk pn psub) a) := hp.bel (hb0.mono (by omega))
  have HK0 : Hid (Kw bm w own w0 own) := Kw.bel hb0
  obtain ⟨sb, hsb⟩ : ∃ s, w.heap.size = s := ⟨_, rfl⟩
  rw [hsb] at hx0
  obtain ⟨x0, x1, x2⟩ := cell_three hx0
  have HX0 : Hid (w0.heap[sb]? = some (Obj.cells #[.int .i64 pk, .int .i64 pn, .slice a ln c] 24)) := hx0
  clear hM ho hp IH hb0 hx0
  by_cases h7 : k = 7
  · subst h7
    have HC := HIH.out S e own a c w0 HM0.out HOK.out h2 he (by omega) HP.out
    unfold pv at HC
    dsimp only [Pat.kind, Pat.num, Pat.sub] at HC
    rw [hln] at HC
    go_enter Try.func21, Try.ntmps21
    go_wp2_with fail
    refine HC.mono ?_
    rintro r w1 ⟨S1, b1, own1, rfl, hB1, hM1, hk1⟩
    have HB1 : Hid (Built (Lang (.mk pk pn psub)) (2 * sz (.mk pk pn psub) - 1) S S1 b1 e) := hB1
    have HF := fork_any N bm S1 (b1 : Int) (e : Int) own1 (by have := hB1.few; omega) w1 hM1
    have HK1 : Hid (Kw bm w own w1 own1) := HK0.out.trans hk1
    clear hB1 hM1 hk1 HC
    go_wp2_with fail
    refine HF.mono ?_
    rintro r w2 ⟨rfl, own2, hM2, hk2⟩
    have HM2 : Hid _ := hM2
    have HK2 : Hid (Kw bm w own w2 own2) := HK1.out.trans hk2
    clear hM2 hk2 HF
    go_wp2_with fail
    go_ret
    refine ⟨_, S1.length, own2, rfl, ?_, HM2.out, HK2.out⟩
    refine built_fork h2 (built_eps HOK.out he (fun w => Iff.rfl) (z := 0)) HB1.out rfl rfl rfl (fun w => ?_) (by omega)
    rw [lang_maybe]
    exact Or.comm
  · have hk56 : k = 5 ∨ k = 6 := by omega
    have HF := fork_any N bm S 1 (e : Int) own (by omega) w0 HM0.out
    go_enter Try.func21, Try.ntmps21
    go_wp2_with fail
    refine HF.mono ?_
    rintro r w1 ⟨rfl, own1, hM1, hk1⟩
    have HC := HIH.out (S ++ [⟨4, 0, 1, (e : Int)⟩]) S.length own1 a c w1 hM1 (by rw [List.length_append]; exact (HOK.out.mono (by simp)).app ⟨⟨by show (0 : Int) ≤ 1; decide, by show (1 : Int) < _; simp; omega⟩, ⟨by show (0 : Int) ≤ (e : Int); omega, by show (e : Int) < _; simp; omega⟩⟩) (by simp; omega) (by simp) (by simp; omega) (HP.out.bel (HM0.out.under hk1))
    have HK1 : Hid (Kw bm w own w1 own1) := HK0.out.trans hk1
    have hx1 : w1.heap[sb]? = some (Obj.cells #[.int .i64 pk, .int .i64 pn, .slice a ln c] 24) := (hk1.block sb (by omega) (by omega) (fun e => by have := (hol sb e.symm).2; omega)).trans HX0.out
    obtain ⟨y0, y1, y2⟩ := cell_three hx1
    unfold pv at HC
    dsimp only [Pat.kind, Pat.num, Pat.sub] at HC
    rw [hln] at HC
    obtain ⟨L, hL⟩ : ∃ L, S.length = L := ⟨_, rfl⟩
    rw [hL] at HC ⊢
    clear hM1 hk1 HF hx1
    go_wp2_with fail
    refine HC.mono ?_
    rintro r w2 ⟨S2, b2, own2, rfl, hB2, hM2, hk2⟩
    have HB2 : Hid (Built (Lang (.mk pk pn psub)) (2 * sz (.mk pk pn psub) - 1) (S ++ [⟨4, 0, 1, (e : Int)⟩]) S2 b2 S.length) := by rw [hL]; exact hB2
    have HK2 : Hid (Kw bm w own w2 own2) := HK1.out.trans hk2
    have hi2 : S.length < S2.length := by have := hB2.le; simp at this; omega
    have hq2 : S2[S.length] = ⟨4, 0, 1, (e : Int)⟩ := by
      have h1 := at_ext hB2.ext (i := S.length) at_app
      rw [List.getElem?_eq_getElem hi2] at h1
      exact Option.some.inj h1
    obtain ⟨g, cg, hgo, g0, g1, g2, g3, g4⟩ := mc_set (i := S.length) (j := 2) hM2 hi2 (by decide) (u := .int .i64 (b2 : Int)) (y := ⟨4, 0, (b2 : Int), (e : Int)⟩) (by rw [hq2]; rfl)
    rw [hq2] at g1
    obtain ⟨L2, hL2⟩ : ∃ l, S2.length = l := ⟨_, rfl⟩
    have hi3 : L < L2 := by omega
    have hs2 : L2 ≤ 1099511627775 := by have := hB2.few; simp at this; omega
    rw [hL] at g1 g2 g3 g4
    rw [hL2] at g0
    have g1' : w2.cell? ⟨g, L * 4 + 2, none⟩ = some (.int .i64 1) := g1
    have HG3 : Hid (Mc N (w2.setCell ⟨g, L * 4 + 2, none⟩ (.int .i64 (b2 : Int))) bm (S2.set S.length ⟨4, 0, (b2 : Int), (e : Int)⟩) own2) := by rw [hL]; exact g3
    clear g1
    have HM3 : Hid _ := g3
    have HK3 : Hid (Kw bm w own (w2.setCell ⟨g, L * 4 + 2, none⟩ (.int .i64 (b2 : Int))) own2) := HK2.out.trans g4
    clear hB2 hM2 hk2 HC g3 g4
    have HBS : Hid _ := built_star (q' := ⟨4, 0, (b2 : Int), (e : Int)⟩) (z := 2 * sz (.mk pk pn psub)) HOK.out h2 he rfl HB2.out rfl rfl (by omega)
    rcases hk56 with rfl | rfl
    · go_wp2_with fail
      go_ret
      exact ⟨_, L, own2, rfl, by rw [← hL]; exact HBS.out.1.weak (fun w => (lang_star n _ w).symm) (Nat.le_refl _), HG3.out, HK3.out⟩
    · go_wp2_with fail
      go_ret
      exact ⟨_, b2, own2, rfl, HBS.out.2.weak (fun w => (lang_plus n _ w).symm) (Nat.le_refl _), HG3.out, HK3.out⟩
end Go.Proofs.Ytagfdmkgnedlbag.Po
