/- What Decode answers. -/
import Derived.Test.YtanboekdfdafmaaPwK
import Derived.Test.YtanboekdfdafmaaPwM
import Derived.Test.YtanboekdfdafmaaPvP
namespace Go.Proofs.Ytanboekdfdafmaa.Pv
open Go.ChangeShapes Go.WideShapes Go.ChangeAt Go.RowKit Go.Joins Go.Proofs.Ytanboekdfdafmaa.PM Go.Proofs.Ytanboekdfdafmaa.Ask Go.Proofs.Ytanboekdfdafmaa.Ge
set_option linter.unusedVariables false

/-- a message is laid into a box -/
theorem MB.put {b : Nat} {m0 m : Ms} {s0 s : Sl} {w : World} (h : MB b m0 s0 w) : MB b m s ((((((((((((((((((w).setCell ⟨b, 0, none⟩ (.int .i64 m.kind)).setCell ⟨b, 1, none⟩ (.int .i64 m.dom)).setCell ⟨b, 2, none⟩ (.int .i64 m.id)).setCell ⟨b, 3, none⟩ (.int .i64 m.hold)).setCell ⟨b, 4, none⟩ (.int .i64 m.code)).setCell ⟨b, 5, none⟩ (.slice s.l m.lost.length s.lc)).setCell ⟨b, 6, none⟩ (.slice s.h m.hv.length s.hc)).setCell ⟨b, 7, none⟩ (.int .u32 m.rt.pa)).setCell ⟨b, 8, none⟩ (.int .i64 m.rt.pn)).setCell ⟨b, 9, none⟩ (.slice s.p m.rt.path.length s.pc)).setCell ⟨b, 10, none⟩ (.int .i64 m.rt.org)).setCell ⟨b, 11, none⟩ (.int .i64 m.rt.pref)).setCell ⟨b, 12, none⟩ (.int .i64 m.rt.med)).setCell ⟨b, 13, none⟩ (.int .u32 m.rt.next)).setCell ⟨b, 14, none⟩ (.slice s.m m.rt.marks.length s.mc)).setCell ⟨b, 15, none⟩ (.slice s.c m.rt.clus.length s.cc)).setCell ⟨b, 16, none⟩ (.int .i64 m.rt.auth)) := by
  have h0 := h
  unfold MB at h0 ⊢
  have h1 := heap_setCell_same _ b 0 _ _ (.int .i64 m.kind) h0
  have h2 := heap_setCell_same _ b 1 _ _ (.int .i64 m.dom) h1
  have h3 := heap_setCell_same _ b 2 _ _ (.int .i64 m.id) h2
  have h4 := heap_setCell_same _ b 3 _ _ (.int .i64 m.hold) h3
  have h5 := heap_setCell_same _ b 4 _ _ (.int .i64 m.code) h4
  have h6 := heap_setCell_same _ b 5 _ _ (.slice s.l m.lost.length s.lc) h5
  have h7 := heap_setCell_same _ b 6 _ _ (.slice s.h m.hv.length s.hc) h6
  have h8 := heap_setCell_same _ b 7 _ _ (.int .u32 m.rt.pa) h7
  have h9 := heap_setCell_same _ b 8 _ _ (.int .i64 m.rt.pn) h8
  have h10 := heap_setCell_same _ b 9 _ _ (.slice s.p m.rt.path.length s.pc) h9
  have h11 := heap_setCell_same _ b 10 _ _ (.int .i64 m.rt.org) h10
  have h12 := heap_setCell_same _ b 11 _ _ (.int .i64 m.rt.pref) h11
  have h13 := heap_setCell_same _ b 12 _ _ (.int .i64 m.rt.med) h12
  have h14 := heap_setCell_same _ b 13 _ _ (.int .u32 m.rt.next) h13
  have h15 := heap_setCell_same _ b 14 _ _ (.slice s.m m.rt.marks.length s.mc) h14
  have h16 := heap_setCell_same _ b 15 _ _ (.slice s.c m.rt.clus.length s.cc) h15
  have h17 := heap_setCell_same _ b 16 _ _ (.int .i64 m.rt.auth) h16
  rw [h17]
  simp [msL]
theorem rpfxs_len : ∀ (n : Nat) (r : List Nat) (ps : List (Int × Int)), rpfxs n r = some ps → ps.length ≤ r.length
  | 0, r, ps, h => by
    unfold rpfxs at h
    split at h
    · cases h; simp
    · cases h
  | n + 1, r, ps, h => by
    unfold rpfxs at h
    split at h
    · cases h; simp
    · split at h
      · cases h
      · rename_i p0 r2 e
        split at h
        · cases h
        · rename_i l e2
          cases h
          have h1 := rpfx_lt e
          have h2 := rpfxs_len n r2 l e2
          simp
          omega
theorem piece_in {r a b : List Nat} (h : rpiece r = some (a, b)) (hu : ∀ d ∈ r, d < 256) : (∀ d ∈ a, d < 256) ∧ (∀ d ∈ b, d < 256) := by
  obtain ⟨-, -, -, e⟩ := rpiece_len h
  rw [e] at hu
  exact ⟨fun d hd => hu d (List.mem_append_left _ (List.mem_append_right _ hd)), fun d hd => hu d (List.mem_append_right _ hd)⟩
/-- what is read is no longer than the bytes -/
theorem readB_len {k : Nat} {xs body : List Nat} {m : Ms} (h : readB k xs = some (m, body)) : m.lost.length ≤ xs.length ∧ m.hv.length ≤ xs.length ∧ body.length ≤ xs.length ∧ ((∀ d ∈ xs, d < 256) → ∀ d ∈ body, d < 256) := by
  unfold readB at h
  split at h
  · split at h
    · cases h; exact ⟨by simp [ms0], by simp [ms0], Nat.le_refl _, fun h => h⟩
    · cases h
  · split at h
    · unfold rupd at h
      split at h
      · cases h
      · rename_i lost r1 e1
        split at h
        · cases h
        · rename_i ats hv e2
          split at h
          · cases h
          · rename_i ls e3
            split at h
            · cases h
            · rename_i t kn e4
              split at h
              · cases h
              · rename_i hs e5
                cases h
                obtain ⟨-, -, l1, -⟩ := rpiece_len e1
                obtain ⟨-, -, l2, -⟩ := rpiece_len e2
                have l3 := rpfxs_len _ _ _ e3
                have l5 := rpfxs_len _ _ _ e5
                refine ⟨by dsimp only; omega, by dsimp only; omega, ?_, fun hu => ?_⟩
                · unfold updB piece
                  simp only [List.length_append, big_len, List.length_take]
                  omega
                · obtain ⟨u1, u2⟩ := piece_in e1 hu
                  obtain ⟨u3, u4⟩ := piece_in e2 u2
                  unfold updB
                  exact all_u8 (all_u8 (piece_u8 u1) (piece_u8 (fun d hd => u3 d (List.mem_of_mem_take hd)))) u4
    · split at h
      · split at h
        · cases h; exact ⟨by simp [ms0], by simp [ms0], Nat.le_refl _, fun h => h⟩
        · cases h
      · cases h; exact ⟨by simp [ms0], by simp [ms0], Nat.le_refl _, fun h => h⟩
theorem encB_u8 (m : Ms) : ∀ d ∈ encB m, d < 256 := by
  unfold encB
  split
  · exact frame_u8 _ (body_u8 m)
  · intro d hd; cases hd
theorem frE_ok {xs : List Nat} (h9 : ¬ xs.length < 9) (h : frE xs = 0) : xs.length ≤ 1024 ∧ ∃ k, xs[6]? = some k ∧ 1 ≤ k ∧ k ≤ 4 ∧ ssum 65535 (k :: xs.drop 9) = num ((xs.drop 7).take 2) ∧ num ((xs.drop 4).take 2) = xs.length ∧ (∀ i (hi : i < xs.length), i < 4 → xs[i] = 255) := by
  unfold frE at h
  rw [if_neg h9] at h
  split at h
  · rename_i hb
    exact absurd h hb
  · rename_i hb
    have hb0 : bgE xs = 0 := by simpa using hb
    split at h
    · cases h
    · rename_i hz
      have hz0 : num ((xs.drop 4).take 2) = xs.length := by simpa using hz
      split at h
      · cases h
      · rename_i hs
        split at h
        · cases h
        · rename_i hk
          have hlt : 6 < xs.length := by omega
          have e6 : xs[6]? = some xs[6] := List.getElem?_eq_getElem hlt
          rw [e6] at hk hs
          simp only [Option.getD_some] at hk hs
          have hk1 : isK ((xs[6] : Nat) : Int) = true := by simpa using hk
          have hk2 := isK_iff.1 hk1
          have h255 : ∀ i (hi : i < xs.length), i < 4 → xs[i] = 255 := by
            intro i hi h4
            apply Classical.byContradiction
            intro hne
            rw [bg_bad h4 hi hne] at hb0
            cases hb0
          refine ⟨?_, xs[6], e6, by omega, by omega, by simpa using (Eq.symm (by simpa using hs)), hz0, h255⟩
          rw [bg_ok h255] at hb0
          split at hb0
          · cases hb0
          · rename_i hc
            omega
/-- what Decode leaves -/
def DecPost (w : World) (o : Ms × Int) (e : Ending) (w' : World) : Prop := ∃ s, e = .returned (.tuple #[msV o.1 s, .int .i64 o.2]) ∧ MO w.heap.size w' o.1 s ∧ Below w.heap.size w w'
theorem msV_zero : msV ms0 sZ = .agg #[.int .i64 0, .int .i64 0, .int .i64 0, .int .i64 0, .int .i64 0, .slice none 0 0, .slice none 0 0, .int .u32 0, .int .i64 0, .slice none 0 0, .int .i64 0, .int .i64 0, .int .i64 0, .int .u32 0, .slice none 0 0, .slice none 0 0, .int .i64 0] := rfl
set_option maxRecDepth 100000 in
set_option maxHeartbeats 8000000 in
theorem mput_run {o : Oper} (x y : Operand) (ho : o.op = .store 54 x y) {ρ : Operand → Value} {b : Nat} {m0 m : Ms} {s0 s : Sl} {W : World} (hx : ρ x = .pointer (some ⟨b, 0, none⟩)) (hy : ρ y = msV m s) (h : MB b m0 s0 W) : (execOp ρ o).run Try.prog W = .ok .skip ((((((((((((((((((W).setCell ⟨b, 0, none⟩ (.int .i64 m.kind)).setCell ⟨b, 1, none⟩ (.int .i64 m.dom)).setCell ⟨b, 2, none⟩ (.int .i64 m.id)).setCell ⟨b, 3, none⟩ (.int .i64 m.hold)).setCell ⟨b, 4, none⟩ (.int .i64 m.code)).setCell ⟨b, 5, none⟩ (.slice s.l m.lost.length s.lc)).setCell ⟨b, 6, none⟩ (.slice s.h m.hv.length s.hc)).setCell ⟨b, 7, none⟩ (.int .u32 m.rt.pa)).setCell ⟨b, 8, none⟩ (.int .i64 m.rt.pn)).setCell ⟨b, 9, none⟩ (.slice s.p m.rt.path.length s.pc)).setCell ⟨b, 10, none⟩ (.int .i64 m.rt.org)).setCell ⟨b, 11, none⟩ (.int .i64 m.rt.pref)).setCell ⟨b, 12, none⟩ (.int .i64 m.rt.med)).setCell ⟨b, 13, none⟩ (.int .u32 m.rt.next)).setCell ⟨b, 14, none⟩ (.slice s.m m.rt.marks.length s.mc)).setCell ⟨b, 15, none⟩ (.slice s.c m.rt.clus.length s.cc)).setCell ⟨b, 16, none⟩ (.int .i64 m.rt.auth)) := by
  obtain ⟨c0, c1, c2, c3, c4, c5, c6, c7, c8, c9, c10, c11, c12, c13, c14, c15, c16⟩ := h.box
  have g0 := h.fro 0
  have g1 := h.fro 1
  have g2 := h.fro 2
  have g3 := h.fro 3
  have g4 := h.fro 4
  have g5 := h.fro 5
  have g6 := h.fro 6
  have g7 := h.fro 7
  have g8 := h.fro 8
  have g9 := h.fro 9
  have g10 := h.fro 10
  have g11 := h.fro 11
  have g12 := h.fro 12
  have g13 := h.fro 13
  have g14 := h.fro 14
  have g15 := h.fro 15
  have g16 := h.fro 16
  unfold msV at hy
  unfold execOp
  rw [ho]
  simp [go_sem, hx, hy, c0, g0, c1, g1, c2, g2, c3, g3, c4, g4, c5, g5, c6, g6, c7, g7, c8, g8, c9, g9, c10, g10, c11, g11, c12, g12, c13, g13, c14, g14, c15, g15, c16, g16]
theorem Kr.put (w : World) (b : Nat) (m : Ms) (s : Sl) : Kr w b ((((((((((((((((((w).setCell ⟨b, 0, none⟩ (.int .i64 m.kind)).setCell ⟨b, 1, none⟩ (.int .i64 m.dom)).setCell ⟨b, 2, none⟩ (.int .i64 m.id)).setCell ⟨b, 3, none⟩ (.int .i64 m.hold)).setCell ⟨b, 4, none⟩ (.int .i64 m.code)).setCell ⟨b, 5, none⟩ (.slice s.l m.lost.length s.lc)).setCell ⟨b, 6, none⟩ (.slice s.h m.hv.length s.hc)).setCell ⟨b, 7, none⟩ (.int .u32 m.rt.pa)).setCell ⟨b, 8, none⟩ (.int .i64 m.rt.pn)).setCell ⟨b, 9, none⟩ (.slice s.p m.rt.path.length s.pc)).setCell ⟨b, 10, none⟩ (.int .i64 m.rt.org)).setCell ⟨b, 11, none⟩ (.int .i64 m.rt.pref)).setCell ⟨b, 12, none⟩ (.int .i64 m.rt.med)).setCell ⟨b, 13, none⟩ (.int .u32 m.rt.next)).setCell ⟨b, 14, none⟩ (.slice s.m m.rt.marks.length s.mc)).setCell ⟨b, 15, none⟩ (.slice s.c m.rt.clus.length s.cc)).setCell ⟨b, 16, none⟩ (.int .i64 m.rt.auth)) := (((((((((((((((((Kr.set _ _ _ _).trans (Kr.set _ _ _ _)).trans (Kr.set _ _ _ _)).trans (Kr.set _ _ _ _)).trans (Kr.set _ _ _ _)).trans (Kr.set _ _ _ _)).trans (Kr.set _ _ _ _)).trans (Kr.set _ _ _ _)).trans (Kr.set _ _ _ _)).trans (Kr.set _ _ _ _)).trans (Kr.set _ _ _ _)).trans (Kr.set _ _ _ _)).trans (Kr.set _ _ _ _)).trans (Kr.set _ _ _ _)).trans (Kr.set _ _ _ _)).trans (Kr.set _ _ _ _)).trans (Kr.set _ _ _ _))
/-- a message is loaded -/
theorem list_mload {ops : Array Oper} {rest : List Oper} {o : Oper} {ac : Act} {Q : Exit → Act → World → Prop} {W : World} (hgd : o.guard = none) (x : Operand) (ho : o.op = .load 54 x) {b : Nat} {m : Ms} {s : Sl} (hx : ac.eval x = .pointer (some ⟨b, 0, none⟩)) (h : MB b m s W)
    (k : wpList Try.prog ops Q rest (ac.put o.dst (msV m s)) W) : wpList Try.prog ops Q (o :: rest) ac W := by
  refine wpList_plain hgd fun K hK => ?_
  unfold Oper.wp
  rw [mload_run x ho hx h]
  exact hK _ _ k
/-- a message is stored -/
theorem list_mstore {ops : Array Oper} {rest : List Oper} {o : Oper} {ac : Act} {Q : Exit → Act → World → Prop} {W : World} (hgd : o.guard = none) (x y : Operand) (ho : o.op = .store 54 x y) {b : Nat} {m0 m : Ms} {s0 s : Sl} (hx : ac.eval x = .pointer (some ⟨b, 0, none⟩)) (hy : ac.eval y = msV m s) (h : MB b m0 s0 W)
    (k : ∀ W', Hid (MB b m s W') → Hid (Kr W b W') → wpList Try.prog ops Q rest (ac.put o.dst undef) W') : wpList Try.prog ops Q (o :: rest) ac W := by
  refine wpList_plain hgd fun K hK => ?_
  unfold Oper.wp
  rw [mput_run x y ho hx hy h]
  exact hK _ _ (k _ h.put (Kr.put W b m s))
theorem dec_res {W : World} {bd : Nat} {m : Ms} {s : Sl} {er : Int} (h : MB bd m s W) {tm : Array Value} (t2 : (tm[2]?).getD undef = .pointer (some ⟨bd, 0, none⟩)) (t3 : (tm[3]?).getD undef = .int .i64 er) : (results Try.f59 tm).run Try.prog W = .ok (.tuple #[msV m s, .int .i64 er]) W := by
  obtain ⟨c0, c1, c2, c3, c4, c5, c6, c7, c8, c9, c10, c11, c12, c13, c14, c15, c16⟩ := h.box
  unfold msV
  simp [results, Try.results59, go_sem, t2, t3, c0, c1, c2, c3, c4, c5, c6, c7, c8, c9, c10, c11, c12, c13, c14, c15, c16]
end Go.Proofs.Ytanboekdfdafmaa.Pv
