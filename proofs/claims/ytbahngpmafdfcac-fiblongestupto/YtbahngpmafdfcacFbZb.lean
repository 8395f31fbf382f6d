/- FibLongest: what it answers. -/
import Derived.Test.YtbahngpmafdfcacFbZa
import Derived.Test.YtbahngpmafdfcacTrU
namespace Go.Proofs.Ytbahngpmafdfcac.Fb
open Go.ChangeShapes Go.WideShapes Go.ChangeAt Go.RowKit Go.Joins Go.Proofs.Ytbahngpmafdfcac.PM Go.Proofs.Ytbahngpmafdfcac.Ask
set_option linter.unusedVariables false

set_option maxRecDepth 100000 in
set_option maxHeartbeats 1000000 in
theorem new_tab (w : World) : Calls Try.prog 8 #[] w fun e w' => e = .returned (.pointer (some ⟨w.heap.size, 0, none⟩)) ∧ Tab (w.heap.size + 1) w' w.heap.size [] 0 [] none none ∧ Below w.heap.size w w' ∧ w'.heap.size = w.heap.size + 1 := by
  go_enter Try.func8, Try.ntmps8
  go_wp2_with fail
  go_ret
  refine ⟨rfl, ⟨⟨⟨.slice none 0 0, by simp, World.ownsRow_nil _ _ _ _, rfl⟩, by simp, by omega, by simp, by simp⟩, by simp, by simp, ⟨.slice none 0 0, by simp, World.ownsRow_nil _ _ _ _, rfl⟩, by simp, by simp, by simp⟩, (Below.refl _ w).alloc (Nat.le_refl _) _, by simp⟩

/-- a list of steps lies at a slice -/
structure Arr4 (w : World) (a : Option Addr) (ss : List (Int × Int × Int × Bool)) : Prop where
  small : ss.length ≤ 9223372036854775807
  cells : ∀ i (h : i < ss.length), ∃ b o, a = some ⟨b, o, none⟩ ∧ b < w.heap.size ∧ w.cell? ⟨b, o + i * 4, none⟩ = some (.int .u32 ss[i].1) ∧ w.cell? ⟨b, o + i * 4 + 1, none⟩ = some (.int .i64 ss[i].2.1) ∧ w.cell? ⟨b, o + i * 4 + 2, none⟩ = some (.int .i64 ss[i].2.2.1) ∧ w.cell? ⟨b, o + i * 4 + 3, none⟩ = some (.bool ss[i].2.2.2)
  u32 : ∀ d ∈ ss, In32 d.1
theorem Arr4.bel {w w' : World} {a : Option Addr} {ss : List (Int × Int × Int × Bool)} (h : Arr4 w a ss) (hb : Below w.heap.size w w') : Arr4 w' a ss :=
  ⟨h.small, fun i hi => by
    obtain ⟨b, o, e, hlt, h0, h1, h2, h3⟩ := h.cells i hi
    have hk := hb.block b hlt
    exact ⟨b, o, e, Nat.lt_of_lt_of_le hlt hb.size, (World.cell?_of_block (w := w) hk).trans h0, (World.cell?_of_block (w := w) hk).trans h1, (World.cell?_of_block (w := w) hk).trans h2, (World.cell?_of_block (w := w) hk).trans h3⟩, h.u32⟩
/-- a step's own box -/
structure Box4 (lo : Nat) (o : Option Nat) (b : Nat) (ad len way : Int) (dr : Bool) (w : World) : Prop where
  c0 : w.cell? ⟨b, 0, none⟩ = some (.int .u32 ad)
  c1 : w.cell? ⟨b, 1, none⟩ = some (.int .i64 len)
  c2 : w.cell? ⟨b, 2, none⟩ = some (.int .i64 way)
  c3 : w.cell? ⟨b, 3, none⟩ = some (.bool dr)
  lt : lo ≤ b ∧ b < w.heap.size
  ne : some b ≠ o
theorem Box4.keep {lo b : Nat} {o o' : Option Nat} {ad len way : Int} {dr : Bool} {w w' : World} (h : Box4 lo o b ad len way dr w) (hs : w.heap.size ≤ w'.heap.size) (hb : w'.heap[b]? = w.heap[b]?) (hn : some b ≠ o') : Box4 lo o' b ad len way dr w' :=
  ⟨(World.cell?_of_block (w := w) hb).trans h.c0, (World.cell?_of_block (w := w) hb).trans h.c1, (World.cell?_of_block (w := w) hb).trans h.c2, (World.cell?_of_block (w := w) hb).trans h.c3, ⟨h.lt.1, Nat.lt_of_lt_of_le h.lt.2 hs⟩, hn⟩
/-- writes that lie apart from a list and above what is old -/
structure Wr7 (lo : Nat) (o : Option Nat) (a : Option Addr) (ws : List (Nat × Int)) (w : World) : Prop where
  small : ws.length ≤ 9223372036854775807
  cells : ∀ i (h : i < ws.length), ∃ b p, a = some ⟨b, p, none⟩ ∧ (lo ≤ b ∧ b < w.heap.size) ∧ some b ≠ o ∧ w.cell? ⟨b, p + i * 2, none⟩ = some (.int .i64 (ws[i].1 : Int)) ∧ w.cell? ⟨b, p + i * 2 + 1, none⟩ = some (.int .u32 ws[i].2)
  u32 : ∀ y ∈ ws, In32 y.2
theorem Wr7.keep {lo : Nat} {o o' : Option Nat} {a : Option Addr} {ws : List (Nat × Int)} {w w' : World} (h : Wr7 lo o a ws w) (hs : w.heap.size ≤ w'.heap.size) (hk : ∀ b, lo ≤ b → b < w.heap.size → some b ≠ o → w'.heap[b]? = w.heap[b]? ∧ some b ≠ o') : Wr7 lo o' a ws w' :=
  ⟨h.small, fun i hi => by
    obtain ⟨b, p, e, ⟨hlo, hlt⟩, hne, h0, h1⟩ := h.cells i hi
    obtain ⟨hb, hn⟩ := hk b hlo hlt hne
    exact ⟨b, p, e, ⟨hlo, Nat.lt_of_lt_of_le hlt hs⟩, hn, (World.cell?_of_block (w := w) hb).trans h0, (World.cell?_of_block (w := w) hb).trans h1⟩, h.u32⟩

/-- how the law stands within a step: k of the writes are carried out -/
structure IL (w : World) (bt b2 : Nat) (o1 o2 : Option Nat) (t' : TrM.Tr) (ms' : List Int) (made' : Int) (fr' : List Int) (wa : Option Addr) (ws : List (Nat × Int)) (ms : List Int) (k : Nat) (u : Value) (W : World) : Prop where
  bel : Below w.heap.size w W
  tab : Tab (bt + 1) W bt ms' made' fr' o1 o2
  env : Env bt b2 (b2 + 1) o1 o2 t' u (putsP ms (ws.take k)) W
  wr7 : Wr7 (b2 + 1) u.ownBlock wa ws W
  base : w.heap.size ≤ bt
section
variable {w : World} {bt b2 : Nat} {o1 o2 : Option Nat} {t t' : TrM.Tr} {ms' : List Int} {made' : Int} {fr' : List Int} {wa : Option Addr} {ws : List (Nat × Int)} {ms : List Int} {k : Nat} {u u' : Value} {W W' : World}
theorem IL.next_bel (h : IL w bt b2 o1 o2 t' ms' made' fr' wa ws ms k u W) (hb : Below W.heap.size W W') : IL w bt b2 o1 o2 t' ms' made' fr' wa ws ms k u W' :=
  ⟨h.bel.trans (hb.mono h.bel.size), h.tab.bel hb, h.env.bel hb, h.wr7.keep hb.size (fun b _ hlt hn => ⟨hb.block b hlt, hn⟩), h.base⟩
theorem IL.next_put (h : IL w bt b2 o1 o2 t' ms' made' fr' wa ws ms k u W) (hk : k < ws.length) (ho : OwnU (b2 + 1) W' u' (putP (putsP ms (ws.take k)) ws[k].1 ws[k].2)) (kp : KO W u.ownBlock W' u'.ownBlock) : IL w bt b2 o1 o2 t' ms' made' fr' wa ws ms (k + 1) u' W' := by
  rw [← putsP_snoc hk] at ho
  obtain ⟨he, ht⟩ := h.env.ko h.tab ho kp
  have hl := h.env.lt
  have h0 := h.base
  refine ⟨⟨kp.str.os.trans h.bel.os, kp.str.tape.trans h.bel.tape, kp.str.output.trans h.bel.output, Nat.le_trans h.bel.size kp.size, fun b hb => ?_⟩, ht, he, h.wr7.keep kp.size (fun b _ hlt hn => ⟨kp.block b hlt hn, kp.ne hlt hn⟩), h.base⟩
  exact (kp.block b (by omega) (fun e => by have := (h.env.ge b e.symm).1; omega)).trans (h.bel.block b hb)
theorem IL.next_but {t2 : TrM.Tr} (h : IL w bt b2 o1 o2 t ms' made' fr' wa ws ms k u W) (hb : Tri.But b2 W W') {p : Option Addr} {c : Int} (hh : Tri.Holds (Oth bt b2 o1 o2 u.ownBlock) W' b2 t2 p c) : IL w bt b2 o1 o2 t2 ms' made' fr' wa ws ms k u W' := by
  obtain ⟨he, ht⟩ := h.env.but h.tab hb hh
  have hl := h.env.lt
  have h0 := h.base
  refine ⟨⟨hb.os.trans h.bel.os, hb.tape.trans h.bel.tape, hb.output.trans h.bel.output, Nat.le_trans h.bel.size hb.size, fun b hlt => ?_⟩, ht, he, h.wr7.keep hb.size (fun b hlo hlt hn => ⟨hb.block b hlt (by omega), hn⟩), h.base⟩
  exact (hb.block b (by omega) (by omega)).trans (h.bel.block b hlt)
end

/-- how the law stands between two steps -/
def LI (w : World) (bt b2 k : Nat) (u : Value) (W : World) : Prop :=
  ∃ ms made fr o1 o2 t, Below w.heap.size w W ∧ Tab (bt + 1) W bt ms made fr o1 o2 ∧ Fit ms made fr t ∧ Env bt b2 (b2 + 1) o1 o2 t u ms W ∧ made ≤ 2 * k ∧ w.heap.size ≤ bt
theorem IL.start {w wA w1 : World} {bt b2 : Nat} {o1 o2 o1' o2' : Option Nat} {t : TrM.Tr} {ms fr fr' : List Int} {made made' : Int} {u : Value} {va : Option Addr} {n vc : Nat} {ws : List (Nat × Int)}
    (hb0 : Below w.heap.size w wA) (h : Tab (bt + 1) wA bt ms made fr o1 o2) (he : Env bt b2 (b2 + 1) o1 o2 t u ms wA) (h0 : w.heap.size ≤ bt)
    (ht : Tab (bt + 1) w1 bt (putsP ms ws) made' fr' o1' o2') (hk : KT bt wA o1 o2 w1 o1' o2') (ho : Own wA.heap.size w1 bt o1' o2' (.slice va n vc) ws) (hf : ws.length ≤ 9) :
    IL w bt b2 o1' o2' t (putsP ms ws) made' fr' va ws ms 0 u w1 := by
  have hl := he.lt
  refine ⟨?_, ht, he.kt hk, ⟨by omega, fun i hi => ?_, ho.u32⟩, h0⟩
  · exact hb0.trans (hk.below hb0.size h0 (fun g e => by have := (h.in1 g e).1; omega) (fun g e => by have := (h.in2 g e).1; omega))
  · obtain ⟨b, p, e, hlt, -, -, h1, h2⟩ := (ho.wrs (by omega)).cells i hi
    subst e
    have hg : wA.heap.size ≤ b := (ho.row.lt b (by simp [Value.ownBlock])).1
    exact ⟨b, p, rfl, ⟨by omega, hlt⟩, fun e2 => by have := (he.ge b e2.symm).2; omega, h1, h2⟩
theorem del_bad {t : TrM.Tr} {ad len : Int} (hv : vld ad len = false) : TrM.del t ad len = (t, false) := by
  cases t with
  | nil => rfl
  | node b m u hh l r =>
    have : cov b m ad len = false := by unfold cov; rw [hv]; rfl
    unfold TrM.del; rw [if_neg (by rw [this]; decide)]
theorem four (w : World) (a n v : Int) (d : Bool) (T : Nat) (o : Option Nat) (lo : Nat) (hlo : lo ≤ w.heap.size) (ho : ∀ g, o = some g → g < w.heap.size) : Box4 lo o w.heap.size a n v d (w.alloc (Obj.cells #[.int .u32 a, .int .i64 n, .int .i64 v, .bool d] T)) :=
  ⟨by simp, by simp, by simp, by simp, ⟨hlo, by simp⟩, fun e => by have := ho _ e.symm; omega⟩
end Go.Proofs.Ytbahngpmafdfcac.Fb
