/- lsaPacketCopy: what it answers. -/
import Derived.Test.YtagfdmkgnedlbaeLsK
import Derived.Test.YtagfdmkgnedlbaeLsY
namespace Go.Proofs.Ytagfdmkgnedlbae.Ls
open Go.ChangeShapes Go.WideShapes Go.ChangeAt Go.RowKit Go.Joins Go.Proofs.Ytagfdmkgnedlbae.PM Go.Proofs.Ytagfdmkgnedlbae.Ask
set_option linter.unusedVariables false

/-- where the lists of an announcement lie -/
def On (P : Nat → Prop) (y : It) : Prop := (0 < y.x.links.length → ∀ b o, y.la = some ⟨b, o, none⟩ → P b) ∧ (0 < y.x.stubs.length → ∀ b o, y.sa = some ⟨b, o, none⟩ → P b)
theorem L3.on {k : IntKind} {W W' : World} {a : Option Addr} {xs : List (Int × Int × Int)} {P : Nat → Prop} (h : L3 k W a xs) (hp : 0 < xs.length → ∀ b o, a = some ⟨b, o, none⟩ → P b) (hs : W.heap.size ≤ W'.heap.size) (hk : ∀ b, P b → b < W.heap.size → W'.heap[b]? = W.heap[b]?) : L3 k W' a xs := by
  by_cases h0 : 0 < xs.length
  · exact h.block hs (fun b o e hlt => hk b (hp h0 b o e) hlt)
  · exact ⟨h.small, fun i hi => absurd hi (by omega)⟩
theorem L3.lt {k : IntKind} {W : World} {a : Option Addr} {xs : List (Int × Int × Int)} (h : L3 k W a xs) (h0 : 0 < xs.length) : ∀ b o, a = some ⟨b, o, none⟩ → b < W.heap.size := by
  intro b o e
  obtain ⟨b', o', e', hlt, -⟩ := h.cells 0 h0
  rw [e] at e'
  cases e'
  exact hlt
theorem LsOk.on {W W' : World} {y : It} {P : Nat → Prop} (h : LsOk W y.x y.la y.sa) (hp : On P y) (hs : W.heap.size ≤ W'.heap.size) (hk : ∀ b, P b → b < W.heap.size → W'.heap[b]? = W.heap[b]?) : LsOk W' y.x y.la y.sa :=
  ⟨h.lk.on hp.1 hs hk, h.st.on hp.2 hs hk, h.p32, h.s32⟩
theorem On.weak {W : World} {y : It} {P P' : Nat → Prop} (h : On P y) (ho : LsOk W y.x y.la y.sa) (hp : ∀ b, b < W.heap.size → P b → P' b) : On P' y :=
  ⟨fun h0 b o e => hp b (ho.lk.lt h0 b o e) (h.1 h0 b o e), fun h0 b o e => hp b (ho.st.lt h0 b o e) (h.2 h0 b o e)⟩
/-- announcements that were copied one by one -/
structure DL (M : Nat) (W : World) (v : Value) (ys : List It) : Prop where
  row : W.ownsRow M 28 11 v ys.length (acs ys)
  its : ∀ y ∈ ys, LsOk W y.x y.la y.sa
  on : ∀ y ∈ ys, On (fun b => M ≤ b ∧ ¬ v.ownBlock = some b) y
theorem DL.form {M : Nat} {W : World} {v : Value} {ys : List It} (h : DL M W v ys) : ∃ a c, v = .slice a ys.length c := by
  rcases h.row.2 with ⟨h1, h2⟩ | ⟨g, cap, cur, h1, _⟩
  · exact ⟨_, _, by rw [h1, h2]⟩
  · exact ⟨_, _, h1⟩
theorem DL.low {M : Nat} {W W' : World} {v : Value} {ys : List It} (h : DL M W v ys) (hs : W.heap.size ≤ W'.heap.size) (hb : ∀ b, M ≤ b → b < W.heap.size → W'.heap[b]? = W.heap[b]?) : DL M W' v ys :=
  ⟨row_blk h.row (fun g e => hb g (h.row.lt g e).1 (h.row.lt g e).2), fun y hy => (h.its y hy).on (h.on y hy) hs (fun b hp hl => hb b hp.1 hl), h.on⟩
theorem DL.bel {M : Nat} {W W' : World} {v : Value} {ys : List It} (h : DL M W v ys) (hb : Below W.heap.size W W') : DL M W' v ys := h.low hb.size (fun b _ hl => hb.block b hl)
theorem DL.nil (M : Nat) (W : World) : DL M W (.slice none 0 0) [] := ⟨World.ownsRow_nil _ _ _ _, (fun y hy => by cases hy), fun y hy => by cases hy⟩
theorem DL.all {M n : Nat} {W : World} {va : Option Addr} {cap : Nat} {ys : List It} (h : DL M W (.slice va n cap) ys) (hn : ys.length = n) : LAll W va (ys.map It.x) := by
  have hr := h.row
  rw [hn] at hr
  refine ⟨?_, fun i hi => ?_⟩
  · rw [List.length_map]
    rcases hr.2 with ⟨_, h1⟩ | ⟨g, c, cur, _, _, _, h1, h2, _⟩
    · omega
    · unfold maxLen at h2; omega
  · rw [List.length_map] at hi
    rcases hr.2 with ⟨_, h1⟩ | ⟨g, c, cur, hv, hg, hb, hnc, hcm, hsz, htk⟩
    · omega
    · cases hv
      have hc : ∀ j, j < 11 → W.cell? ⟨g, 0 + i * 11 + j, none⟩ = ys[i].cells[j]? := fun j hj => by
        rw [hr.cellAt _ (by omega)]
        rw [Nat.zero_add]
        exact acs_at ys i hi j hj
      have ho := h.its ys[i] (List.getElem_mem hi)
      refine ⟨g, 0, ys[i].la, ys[i].lc, ys[i].sa, ys[i].sc, rfl, (Array.getElem?_eq_some_iff.1 hb).1, ?_, ?_⟩
      · rw [List.getElem_map]
        exact ⟨hc 0 (by decide), hc 1 (by decide), hc 2 (by decide), hc 3 (by decide), hc 4 (by decide), hc 5 (by decide), hc 6 (by decide), hc 7 (by decide), hc 8 (by decide), hc 9 (by decide), hc 10 (by decide)⟩
      · rw [List.getElem_map]
        exact ho
/-- one announcement is appended -/
theorem list_app1L {ops : Array Oper} {rest : List Oper} {o : Oper} {a : Act} {Q : Exit → Act → World → Prop} (hgd : o.guard = none) (s x : Operand)
    (ho : o.op = .call { callee := .builtin .append, args := #[s, x], argTypes := #[34, 34] })
    (M : Nat) (v : Value) (ys : List It) (y : It) (hbig : ys.length ≤ 1048576) {w : World} (W : World) (hs : a.eval s = v) (hown : DL M W v ys) (hy : LsOk W y.x y.la y.sa) (hyo : On (fun b => M ≤ b ∧ ¬ v.ownBlock = some b) y)
    (hx : a.eval x = .slice (some ⟨w.heap.size, 0, none⟩) 1 1) (hN : M ≤ W.heap.size) (hW : W = w.alloc (Obj.cells y.cells.toArray 28))
    (h : ∀ v' w', Hid (DL M w' v' (ys ++ [y])) → Hid (W.grownBy w' v.ownBlock) → wpList Try.prog ops Q rest (a.put o.dst v') w') :
    wpList Try.prog ops Q (o :: rest) a W := by
  have hnew : W.heap[w.heap.size]? = some (Obj.cells y.cells.toArray 28) := by rw [hW]; exact World.alloc_heap_new w _
  obtain ⟨i0, hi, hz0, hz1, hz2⟩ := info_parts infoA
  refine wpList_append_own_at _ hgd s x 34 ho M 28 i0 _ 11 120 Try.underlying34 hi hz0 hz1 hz2 rfl (by decide) v ys.length (acs ys) hs hown.row ⟨w.heap.size, 0, none⟩ 1 1 (acs [y]) hx (acs_len _) (by
      intro j u hj
      have e : acs [y] = y.cells := by simp [acs]
      rw [e] at hj
      have := acells hnew j u hj
      rw [Addr.add_lit]
      simpa using this) (acs_one _) (by unfold maxLen; omega) (by omega) hN ?_
  intro v' w' h2 h3 _ h5
  have hon : ∀ z, LsOk W z.x z.la z.sa → On (fun b => M ≤ b ∧ ¬ v.ownBlock = some b) z → LsOk w' z.x z.la z.sa ∧ On (fun b => M ≤ b ∧ ¬ v'.ownBlock = some b) z := fun z hz hzo =>
    ⟨hz.on hzo h3.size (fun b hp hl => h3.block b hl (fun e => hp.2 e.symm)), hzo.weak hz (fun b hl hp => ⟨hp.1, fun e => by
      rcases h5 with h6 | h6
      · rw [h6] at e; exact hp.2 e
      · rw [h6] at e; cases e; omega⟩)⟩
  have hall : ∀ z ∈ ys ++ [y], LsOk w' z.x z.la z.sa ∧ On (fun b => M ≤ b ∧ ¬ v'.ownBlock = some b) z := fun z hz => by
    rcases List.mem_append.1 hz with h6 | h6
    · exact hon z (hown.its z h6) (hown.on z h6)
    · rw [List.mem_singleton] at h6
      subst h6
      exact hon z hy hyo
  exact h v' w' ⟨by rw [show acs (ys ++ [y]) = acs ys ++ acs [y] from List.flatMap_append, List.length_append]; exact h2, fun z hz => (hall z hz).1, fun z hz => (hall z hz).2⟩ h3
/-- lists that are nil hold nothing -/
def NilOk (w : World) (va : Option Addr) (xs : List Lsa) : Prop := ∀ i, i < xs.length → ∀ b o la n lc, va = some ⟨b, o, none⟩ → (w.cell? ⟨b, o + i * 11 + 7, none⟩ = some (.slice la n lc) ∨ w.cell? ⟨b, o + i * 11 + 8, none⟩ = some (.slice la n lc)) → la = none → n = 0 ∧ lc = 0
/-- the boxes of lsaPacketCopy -/
structure QB (w : World) (kind frm area seen : Int) (lv : Value) (W : World) : Prop where
  bel : Below w.heap.size w W
  px : PBox w.heap.size kind frm area seen lv W
  fp : ∀ i, W.frozen? ⟨w.heap.size, i, none⟩ = false
  zx : PBox (w.heap.size + 1) 0 0 0 0 (.slice none 0 0) W
  fz : ∀ i, W.frozen? ⟨w.heap.size + 1, i, none⟩ = false
  sz : w.heap.size + 2 ≤ W.heap.size
section
variable {w : World} {kind frm area seen : Int} {lv : Value} {W W' : World}
theorem QB.keep (h : QB w kind frm area seen lv W) (hb : Below (w.heap.size + 2) W W') : QB w kind frm area seen lv W' :=
  ⟨h.bel.trans (hb.mono (by omega)), h.px.blk (hb.block _ (by omega)), fun i => (World.frozen?_of_block (w := W) (hb.block w.heap.size (by omega))).trans (h.fp i), h.zx.blk (hb.block _ (by omega)), fun i => (World.frozen?_of_block (w := W) (hb.block (w.heap.size + 1) (by omega))).trans (h.fz i), Nat.le_trans h.sz hb.size⟩
theorem QB.next (h : QB w kind frm area seen lv W) (hb : Below W.heap.size W W') : QB w kind frm area seen lv W' := h.keep (hb.mono h.sz)
theorem QB.grown {o : Option Nat} (h : QB w kind frm area seen lv W) (hg : W.grownBy W' o) (ho : ∀ g, o = some g → w.heap.size + 2 ≤ g) : QB w kind frm area seen lv W' :=
  h.keep ((Below.refl _ W).grown hg h.sz ho)
end
set_option maxRecDepth 100000 in
set_option maxHeartbeats 8000000 in
theorem pcopy_any (kind frm area seen : Int) (va : Option Addr) (cap : Nat) (xs : List Lsa) (n : Nat) (hn : xs.length = n) (hbn : n ≤ 1048576) (w : World) (hx : LAll w va xs) (hnil : NilOk w va xs) (hbig : ∀ x ∈ xs, x.links.length ≤ 1048576 ∧ x.stubs.length ≤ 1048576) :
    Calls Try.prog 16 #[pkV kind frm area seen va n cap] w fun e w' => ∃ va' cap', e = .returned (pkV kind frm area seen va' n cap') ∧ LAll w' va' xs ∧ Below w.heap.size w w' := by
  have HX : Hid (LAll w va xs) := hx
  have HNIL : Hid (NilOk w va xs) := hnil
  have HBIG : Hid (∀ x ∈ xs, x.links.length ≤ 1048576 ∧ x.stubs.length ≤ 1048576) := hbig
  have HN : Hid (xs.length = n) := hn
  clear hx hnil hbig hn
  unfold pkV
  go_enter Try.func16, Try.ntmps16
  go_upto_region 1 with fail
  obtain ⟨w0, hw0⟩ : ∃ w0, (w.alloc (Obj.cells #[.int .i64 kind, .int .i64 frm, .int .i64 area, .int .i64 seen, .slice va n cap] 36)).alloc (Obj.cells #[.int .i64 0, .int .i64 0, .int .i64 0, .int .i64 0, .slice none 0 0] 36) = w0 := ⟨_, rfl⟩
  have HQ0 : Hid (QB w kind frm area seen (.slice va n cap) w0) := by
    obtain ⟨w1, h1⟩ : ∃ w1, w.alloc (Obj.cells #[.int .i64 kind, .int .i64 frm, .int .i64 area, .int .i64 seen, .slice va n cap] 36) = w1 := ⟨_, rfl⟩
    rw [h1] at hw0
    obtain ⟨a1, a2, a3, a4⟩ := pbox_new h1
    obtain ⟨b1, b2, b3, b4⟩ := pbox_new hw0
    rw [a4] at b1 b2
    exact ⟨a3.trans (b3.mono (by omega)), a1.blk (b3.block _ (by omega)), fun i => (World.frozen?_of_block (w := w1) (b3.block w.heap.size (by omega))).trans (a2 i), b1, b2, by omega⟩
  rw [hw0]
  clear hw0
  obtain ⟨c0, c1, c2, c3, c4⟩ := HQ0.out.px
  go_wp2_with fail
  clear c0 c1 c2 c3 c4
  go_loopw [3, 9] (fun lv iv wr => ∃ (k : Nat) (ys : List It), k ≤ n ∧ iv = .int .i64 (k : Int) ∧ ys.length = k ∧ ys.map It.x = xs.take k ∧ DL (w.heap.size + 2) wr lv ys ∧ QB w kind frm area seen (.slice va n cap) wr) (fun _ i _ => n - (intOf i).toNat)
  case atStart => exact ⟨0, [], by omega, rfl, rfl, rfl, DL.nil _ _, HQ0.out⟩
  case round =>
    obtain ⟨k, ys, hk, rfl, hyl, hym, hdl, hqb⟩ := hrel
    have HDL : Hid (DL (w.heap.size + 2) wr u3 ys) := hdl
    have HQ : Hid (QB w kind frm area seen (.slice va n cap) wr) := hqb
    have HYL : Hid (ys.length = k) := hyl
    have HYM : Hid (ys.map It.x = xs.take k) := hym
    clear hdl hqb hyl hym HQ0
    by_cases hlt : k < n
    · have hkd : k < xs.length := by rw [HN.out]; exact hlt
      obtain ⟨b, o, la, lc, sa, sc, hva, hbl, hat, hok⟩ := HX.out.cells k hkd
      have hnl : la = none → xs[k].links.length = 0 ∧ lc = 0 := HNIL.out k hkd b o la _ lc hva (Or.inl hat.c7)
      have hns : sa = none → xs[k].stubs.length = 0 ∧ sc = 0 := HNIL.out k hkd b o sa _ sc hva (Or.inr hat.c8)
      have hbg := HBIG.out _ (List.getElem_mem hkd)
      have hHC : ∀ W W' : World, W.heap[b]? = W'.heap[b]? → ∀ i, W.cell? ⟨b, i, none⟩ = W'.cell? ⟨b, i, none⟩ := fun W W' e i => World.cell?_of_block (w := W') e
      have hat2 : LAt b (o + k * 11) xs[k] (.slice la xs[k].links.length lc) (.slice sa xs[k].stubs.length sc) wr := by
        have e := hHC wr w (HQ.out.bel.block b hbl)
        exact ⟨(e _).trans hat.c0, (e _).trans hat.c1, (e _).trans hat.c2, (e _).trans hat.c3, (e _).trans hat.c4, (e _).trans hat.c5, (e _).trans hat.c6, (e _).trans hat.c7, (e _).trans hat.c8, (e _).trans hat.c9, (e _).trans hat.c10⟩
      have hok2 : LsOk wr xs[k] la sa := by
        refine ⟨hok.lk.block HQ.out.bel.size (fun b o _ hl => HQ.out.bel.block b hl), hok.st.block HQ.out.bel.size (fun b o _ hl => HQ.out.bel.block b hl), hok.p32, hok.s32⟩
      have HNM : Hid (xs.take (k + 1) = xs.take k ++ [xs[k]]) := by show _ = _; rw [List.take_add_one, List.getElem?_eq_getElem hkd]; rfl
      obtain ⟨x, hx⟩ : ∃ x, xs[k] = x := ⟨_, rfl⟩
      rw [hx] at hnl hns hbg hat2 hok2 HNM
      subst hva
      clear hat hok hx hHC
      obtain ⟨kd, ar, og, pa, pn, sq, ag, cs, tg, lks, sts⟩ := x
      dsimp only at hnl hns hbg
      obtain ⟨c0, c1, c2, c3, c4, c5, c6, c7, c8, c9, c10⟩ := hat2
      dsimp only at c0 c1 c2 c3 c4 c5 c6 c7 c8 c9 c10
      obtain ⟨n1, hn1⟩ : ∃ n1, lks.length = n1 := ⟨_, rfl⟩
      obtain ⟨n2, hn2⟩ : ∃ n2, sts.length = n2 := ⟨_, rfl⟩
      have HN1 : Hid (lks.length = n1) := hn1
      have HN2 : Hid (sts.length = n2) := hn2
      have HNL : Hid (la = none → lks.length = 0 ∧ lc = 0) := hnl
      have HNS : Hid (sa = none → sts.length = 0 ∧ sc = 0) := hns
      have HBG : Hid (lks.length ≤ 1048576 ∧ sts.length ≤ 1048576) := hbg
      have HOK : Hid (LsOk wr ⟨kd, ar, og, pa, pn, sq, ag, cs, tg, lks, sts⟩ la sa) := hok2
      rw [hn1] at c7
      rw [hn2] at c8
      have hkk : (k : Int) < n := by omega
      have kk0 : (0 : Int) ≤ k := by omega
      have hybig : ys.length ≤ 1048576 := by rw [HYL.out]; omega
      clear hnl hns hbg hok2 hn1 hn2
      obtain ⟨wA, hwA⟩ : ∃ wA, wr.alloc (Obj.cells #[.int .i64 kd, .int .i64 ar, .int .i64 og, .int .u32 pa, .int .i64 pn, .int .i64 sq, .int .i64 ag, .slice la n1 lc, .slice sa n2 sc, .int .i64 cs, .int .i64 tg] 28) = wA := ⟨_, rfl⟩
      have hbA : Below wr.heap.size wr wA := by rw [← hwA]; exact (Below.refl _ wr).alloc (Nat.le_refl _) _
      have HCP := copy_any ⟨kd, ar, og, pa, pn, sq, ag, cs, tg, lks, sts⟩ la lc sa sc wA (HOK.out.bel hbA) HNL.out HNS.out HBG.out
      unfold lsaV at HCP
      dsimp only at HCP
      rw [HN1.out, HN2.out] at HCP
      obtain ⟨d0, d1, d2, d3, d4, d5, d6, d7, d8, d9, d10⟩ := (lbox_new hwA).1
      go_wp2_with fail
      refine HCP.mono ?_
      rintro e w3 ⟨la', lc', sa', sc', rfl, ok3, b3, hl3, hs3⟩
      clear d0 d1 d2 d3 d4 d5 d6 d7 d8 d9 d10
      have hAs : wr.heap.size ≤ wA.heap.size := hbA.size
      have HB3 : Hid (Below wr.heap.size wr w3) := hbA.trans (b3.mono hAs)
      obtain ⟨y, hy⟩ : ∃ y : It, (⟨⟨kd, ar, og, pa, pn, sq, ag, cs, tg, lks, sts⟩, la', lc', sa', sc'⟩ : It) = y := ⟨_, rfl⟩
      obtain ⟨w4, hw4⟩ : ∃ w4, w3.alloc (Obj.cells y.cells.toArray 28) = w4 := ⟨_, rfl⟩
      have hb4 : Below w3.heap.size w3 w4 := by rw [← hw4]; exact (Below.refl _ w3).alloc (Nat.le_refl _) _
      have HDL4 : Hid (DL (w.heap.size + 2) w4 u3 ys) := (HDL.out.bel HB3.out).bel hb4
      have HQ4 : Hid (QB w kind frm area seen (.slice (some ⟨b, o, none⟩) n cap) w4) := (HQ.out.next HB3.out).next hb4
      have hsz := HQ.out.sz
      have HOK4 : Hid (LsOk w4 y.x y.la y.sa) := by rw [← hy]; exact ok3.bel hb4
      have HON4 : Hid (On (fun b => w.heap.size + 2 ≤ b ∧ ¬ u3.ownBlock = some b) y) := by
        have hgo : ∀ b, wA.heap.size ≤ b → w.heap.size + 2 ≤ b ∧ ¬ u3.ownBlock = some b := fun b hb => ⟨by omega, fun e => by
          have := (HDL.out.row.lt b e).2
          omega⟩
        rw [← hy]
        exact ⟨fun _ b o e => hgo b (hl3 b o e), fun _ b o e => hgo b (hs3 b o e)⟩
      have HW4 : Hid (w3.alloc (Obj.cells y.cells.toArray 28) = w4) := hw4
      have hw4' : w3.alloc (Obj.cells #[.int .i64 kd, .int .i64 ar, .int .i64 og, .int .u32 pa, .int .i64 pn, .int .i64 sq, .int .i64 ag, .slice la' n1 lc', .slice sa' n2 sc', .int .i64 cs, .int .i64 tg] 28) = w4 := by
        rw [← hw4, ← hy]
        show _ = w3.alloc (Obj.cells #[.int .i64 kd, .int .i64 ar, .int .i64 og, .int .u32 pa, .int .i64 pn, .int .i64 sq, .int .i64 ag, .slice la' lks.length lc', .slice sa' sts.length sc', .int .i64 cs, .int .i64 tg] 28)
        rw [HN1.out, HN2.out]
      have HYX : Hid (y.x = ⟨kd, ar, og, pa, pn, sq, ag, cs, tg, lks, sts⟩) := by rw [← hy]; exact rfl
      have hM4 : w.heap.size + 2 ≤ w4.heap.size := HQ4.out.sz
      clear hwA hbA HCP hw4 hy hb4 ok3 b3 hl3 hs3 HDL HQ
      go_wp2_with (at_builtin; refine list_app1L rfl _ _ rfl (w.heap.size + 2) u3 ys y hybig (w := w3) w4 rfl HDL4.out HOK4.out HON4.out rfl hM4 HW4.out.symm ?_)
      intro v' w' ho' hg'
      have HQz : Hid (QB w kind frm area seen (.slice (some ⟨b, o, none⟩) n cap) w') := HQ4.out.grown hg'.out (fun g e => (HDL4.out.row.lt g e).1)
      clear hw4'
      go_wp2_with fail
      exact ⟨⟨k + 1, ys ++ [y], by omega, by simp, by rw [List.length_append, HYL.out]; rfl, by rw [List.map_append, HYM.out, HNM.out, ← HYX.out]; rfl, ho'.out, HQz.out⟩, by simp [intOf]; omega⟩
    · obtain rfl : n = k := by omega
      have HYE : Hid (ys.map It.x = xs) := by
        have h1 := HYM.out
        rw [List.take_of_length_le (by rw [HN.out]; omega)] at h1
        exact h1
      obtain ⟨va', vc', huv⟩ := HDL.out.form
      rw [HYL.out] at huv
      subst huv
      obtain ⟨c0, c1, c2, c3, c4⟩ := HQ.out.px
      obtain ⟨z0, z1, z2, z3, z4⟩ := HQ.out.zx
      have fp := HQ.out.fp
      have fz := HQ.out.fz
      have HFIN : Hid (∀ W, (∀ g, w.heap.size + 2 ≤ g → W.heap[g]? = wr.heap[g]?) → wr.heap.size ≤ W.heap.size → Below w.heap.size w W → ∃ va'' cap'', Ending.returned (.agg #[.int .i64 kind, .int .i64 frm, .int .i64 area, .int .i64 seen, .slice va' n vc']) = .returned (pkV kind frm area seen va'' n cap'') ∧ LAll W va'' xs ∧ Below w.heap.size w W) := by
        intro W hW hs hB
        have h1 := HDL.out.low hs (fun b hb _ => hW b hb)
        have h2 := h1.all HYL.out
        rw [HYE.out] at h2
        exact ⟨va', vc', rfl, h2, hB⟩
      have HBL : Hid (Below w.heap.size w wr) := HQ.out.bel
      clear HQ HDL
      go_wp2_with fail
      refine bodyPost_ret (v := .agg #[.int .i64 kind, .int .i64 frm, .int .i64 area, .int .i64 seen, .slice va' n vc']) (by simp [results, Try.results16, go_sem, z0, z1, z2, z3, z4]) rfl ?_
      refine HFIN.out (S5 (wr.setCell ⟨w.heap.size, 4, none⟩ (.slice va' n vc')) (w.heap.size + 1) (.int .i64 kind) (.int .i64 frm) (.int .i64 area) (.int .i64 seen) (.slice va' n vc')) (fun g hg => ?_) ?_ ?_
      · rw [(s5_blk _ _ _ _ _ _ _).1 g (by omega), Below.heap_setCell _ _ _ _ (by show g ≠ w.heap.size; omega)]
      · rw [(s5_blk _ _ _ _ _ _ _).2.1]; simp
      · exact (s5_blk _ _ _ _ _ _ _).2.2 _ _ (by omega) (HBL.out.setCell (p := ⟨w.heap.size, 4, none⟩) (Nat.le_refl _) _)
end Go.Proofs.Ytagfdmkgnedlbae.Ls
