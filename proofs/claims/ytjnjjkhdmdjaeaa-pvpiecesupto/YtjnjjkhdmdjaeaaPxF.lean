/- Lists of messages; what one piece of a stream leaves, in plain words. -/
import Derived.Test.YtjnjjkhdmdjaeaaPxE
namespace Go.Proofs.Ytjnjjkhdmdjaeaa.Pv
open Go.ChangeShapes Go.WideShapes Go.ChangeAt Go.RowKit Go.Joins Go.Proofs.Ytjnjjkhdmdjaeaa.PM Go.Proofs.Ytjnjjkhdmdjaeaa.Ask Go.Proofs.Ytjnjjkhdmdjaeaa.Ge
set_option linter.unusedVariables false

def E17 : Gm.El (Ms × Sl) := ⟨31, 46, 17, 216, .agg #[.int .i64 0, .int .i64 0, .int .i64 0, .int .i64 0, .int .i64 0, .slice none 0 0, .slice none 0 0, .int .u32 0, .int .i64 0, .slice none 0 0, .int .i64 0, .int .i64 0, .int .i64 0, .int .u32 0, .slice none 0 0, .slice none 0 0, .int .i64 0], fun p => msL p.1 p.2, by decide, by decide, fun _ => rfl, fun x u hu => by
  simp only [msL, List.mem_cons, List.not_mem_nil, or_false] at hu
  rcases hu with rfl | rfl | rfl | rfl | rfl | rfl | rfl | rfl | rfl | rfl | rfl | rfl | rfl | rfl | rfl | rfl | rfl <;> rfl, Try.underlying46, by kernel_rfl, rfl⟩
/-- what comes out of a piece, and what is left -/
def TK (x : List Nat) (f : Int) (b : List Nat) : List Ms × List Nat × Int := if f = 0 then parse (x ++ b) else ([], x, f)
theorem TK_fault {x b : List Nat} {f : Int} (h : f ≠ 0) : TK x f b = ([], x, f) := by unfold TK; rw [if_neg h]
theorem TK_nil {x : List Nat} (h : SOk x) : TK x 0 [] = ([], x, 0) := by unfold TK; rw [if_pos rfl, List.append_nil, parse_wait h]
theorem TK_step {x r : List Nat} (hx : SOk x) (h0 : 0 < r.length) {k : Nat} (hk : min (misN x) r.length = k) {y : List Nat} (hy : x ++ r.take k = y) :
    TK x 0 r = ((msgP y).1.toList ++ (TK (msgP y).2.1 (msgP y).2.2 (r.drop k)).1, (TK (msgP y).2.1 (msgP y).2.2 (r.drop k)).2) ∧ ((msgP y).2.2 = 0 → SOk (msgP y).2.1) ∧ (6 ≤ y.length → bgE y = 0 → y.length ≤ szOf y) := by
  have hm := mis_pos hx
  have hk1 : 1 ≤ k ∧ k ≤ r.length ∧ k ≤ misN x := by omega
  have hyl : y.length = x.length + k := by rw [← hy, List.length_append, List.length_take]; omega
  have hsz : 6 ≤ y.length → bgE y = 0 → y.length ≤ szOf y := by
    intro h6 hb
    have h9 := bg_six hb h6
    by_cases hx6 : x.length < 6
    · have : misN x = 6 - x.length := by unfold misN; rw [if_pos hx6]
      omega
    · have e1 : misN x = szOf x - x.length := by unfold misN; rw [if_neg hx6]
      have e2 : szOf y = szOf x := by rw [← hy]; exact szOf_app (by omega) _
      have := hx.2 (by omega)
      omega
  have hst : (msgP y).2.2 = 0 → SOk (msgP y).2.1 := by
    unfold msgP
    split
    · rename_i hb
      intro h; exact absurd h hb
    · rename_i hb
      have hb0 : bgE y = 0 := by simpa using hb
      split
      · split
        · intro _; exact sok_nil
        · rename_i hd
          intro h; exact absurd h hd
      · rename_i hw
        intro _
        refine ⟨hb0, fun h6 => ?_⟩
        have h1 := hsz h6 hb0
        have h2 : szOf y ≠ y.length := fun e => hw ⟨h6, e⟩
        show y.length < szOf y
        omega
  refine ⟨?_, hst, hsz⟩
  have hlen : (r.drop k).length ≤ r.length - 1 := by rw [List.length_drop]; omega
  have e0 : TK x 0 r = takeP ((r.length - 1) + 1) x 0 r := by unfold TK; rw [if_pos rfl, take_parse _ x r hx (by omega)]
  have e1 : takeP (r.length - 1) (msgP y).2.1 (msgP y).2.2 (r.drop k) = TK (msgP y).2.1 (msgP y).2.2 (r.drop k) := by
    by_cases hf : (msgP y).2.2 = 0
    · unfold TK
      rw [if_pos hf, hf, take_parse _ _ _ (hst hf) hlen]
    · rw [take_fault _ _ hf, TK_fault hf]
  rw [e0]
  unfold takeP
  have hn0 : ¬ (r.length = 0 ∨ (0 : Int) ≠ 0) := by simp; intro e; rw [e] at h0; exact absurd h0 (by simp)
  rw [if_neg hn0, hk, hy, e1]
/-- bytes at a slice are appended -/
theorem step_app8 {ops : Array Oper} {o : Oper} {a : Act} {Q : Exit → Act → World → Prop} {K : Act → World → Prop} {E : Prop} (hgd : o.guard = none) (s x : Operand)
    (ho : o.op = .call { callee := .builtin .append, args := #[s, x], argTypes := #[22, 22] }) (N : Nat) (v : Value) (xs ys : List Nat) (ad : Addr) (n cap : Nat) (W : World) (hs : a.eval s = v) (hown : OwnL E8 N W v xs)
    (hx : a.eval x = .slice (some ad) n cap) (hsrc : Lst E8 W (some ad) ys) (hn : ys.length = n) (hby : xs.length + n ≤ 1048576) (hN : N ≤ W.heap.size)
    (h : ∀ v' w', Hid (OwnL E8 N w' v' (xs ++ ys)) → Hid (W.grownBy w' v.ownBlock) → Hid (v'.ownBlock = v.ownBlock ∨ v'.ownBlock = some W.heap.size) → K (a.put o.dst v') w') :
    if Region.wanted o (yielded ops a.tmps) = true then Oper.wp Try.prog o a W K Q else E := by
  have hw : Region.wanted o (yielded ops a.tmps) = true := by simp [Region.wanted, hgd]
  rw [if_pos hw]
  obtain ⟨i0, hi, hz0, hz1, hz2⟩ := info_of E8.hi
  obtain ⟨v', w', hr, h2, h3, h4, h5⟩ := run_append_own_at (P := Try.prog) W N 22 o.type 5 i0 _ 1 1 Try.underlying22 hi hz0 hz1 hz2 rfl (by decide) v xs.length (E8.cs xs) hown.row ad n cap (E8.cs ys) (by rw [cs_len, hn]; rfl) (by
    intro j u hj
    have hlt : j < ys.length := by have := (List.getElem?_eq_some_iff.1 hj).1; rw [cs_len] at this; simpa [E8] using this
    obtain ⟨b, o', e, -, hc⟩ := lst8 hsrc j hlt
    cases e
    rw [Addr.add_lit, hc]
    have e2 := cs_at E8 ys j hlt 0 (by decide)
    rw [show j * E8.k + 0 = j by simp [E8]] at e2
    rw [e2] at hj
    simpa [E8] using hj) (cs_one E8 ys) (by unfold maxLen; omega) (by omega) hN
  unfold Oper.wp execOp
  simp only [ho, resolve, invoke, builtin, Sem.run_bind, Sem.run_pure, Result.andThen_ok, List.map_toArray, List.map_cons, List.map_nil, hs, hx, hr]
  exact h v' w' ⟨by rw [cs_app, List.length_append, hn]; exact h2⟩ h3 h5
/-- a list of messages that the call has made -/
structure MsL (N : Nat) (W : World) (v : Value) (l : List (Ms × Sl)) : Prop where
  own : Gm.OwnL E17 N W v l
  each : ∀ p ∈ l, MO N W p.1 p.2
  ap : ∀ p ∈ l, ∀ g, Mown p.2 g → ¬ v.ownBlock = some g
theorem MsL.nil (N : Nat) (W : World) : MsL N W (.slice none 0 0) [] := ⟨Gm.OwnL.nil _ _ _, (fun _ h => by cases h), (fun _ h => by cases h)⟩
theorem MsL.blk {N : Nat} {W W' : World} {v : Value} {l : List (Ms × Sl)} (h : MsL N W v l) (hb : ∀ g, N ≤ g → g < W.heap.size → W'.heap[g]? = W.heap[g]?) : MsL N W' v l :=
  ⟨h.own.blk (fun g e => hb g (h.own.row.lt g e).1 (h.own.row.lt g e).2), fun p hp => (h.each p hp).blk (fun g _ h1 h2 => hb g h1 h2), h.ap⟩
/-- what a piece turns: nothing old but the stream, and what waits in it -/
structure Kt (w : World) (b : Nat) (a : Option Addr) (w' : World) (a' : Option Addr) : Prop where
  str : Below 0 w w'
  block : ∀ g, g < w.heap.size → g ≠ b → ¬ ob a = some g → w'.heap[g]? = w.heap[g]?
  now : ∀ g, ob a' = some g → ob a = some g ∨ w.heap.size ≤ g
theorem Kt.refl (w : World) (b : Nat) (a : Option Addr) : Kt w b a w a := ⟨Below.refl _ _, fun _ _ _ _ => rfl, fun g e => .inl e⟩
theorem Kt.trans {w w1 w2 : World} {b : Nat} {a a1 a2 : Option Addr} (h : Kt w b a w1 a1) (k : Kt w1 b a1 w2 a2) : Kt w b a w2 a2 := by
  refine ⟨h.str.trans k.str, fun g hg h1 h2 => (k.block g (Nat.lt_of_lt_of_le hg h.str.size) h1 ?_).trans (h.block g hg h1 h2), fun g e => ?_⟩
  · intro e
    rcases h.now g e with e2 | e2
    · exact h2 e2
    · omega
  · rcases k.now g e with e2 | e2
    · exact h.now g e2
    · exact .inr (Nat.le_trans h.str.size e2)
theorem Kt.kr {w w1 : World} {b : Nat} (a : Option Addr) {a1 : Option Addr} (h : Kr w b w1) (hn : ∀ g, ob a1 = some g → ob a = some g ∨ w.heap.size ≤ g) : Kt w b a w1 a1 := ⟨h.str, fun g hg h1 _ => h.block g hg h1, hn⟩
end Go.Proofs.Ytjnjjkhdmdjaeaa.Pv
