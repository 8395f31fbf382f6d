/- What a step of the laws asks of a table, and what lies beside it. -/
import Derived.Test.YtjhdjbhpofhiaabFbYd
import Derived.Test.YtjhdjbhpofhiaabFbL
namespace Go.Proofs.Ytjhdjbhpofhiaab.Fb
open Go.ChangeShapes Go.WideShapes Go.ChangeAt Go.RowKit Go.Joins Go.Proofs.Ytjhdjbhpofhiaab.PM Go.Proofs.Ytjhdjbhpofhiaab.Ask
set_option linter.unusedVariables false

theorem DidT.low {base bt : Nat} {o1 o2 : Option Nat} {w wA : World} {ms : List Int} {made : Int} {t t' : TrM.Tr} {err : Int} {e : Ending} {w' : World} (h : DidT base bt o1 o2 wA ms made t t' err e w') (hb : Below w.heap.size w wA) (hbt : bt < w.heap.size) : DidT base bt o1 o2 w ms made t t' err e w' := by
  obtain ⟨ws, made', fr', ⟨v, o1', o2', e, ht, hk, ho⟩, hs⟩ := h
  exact ⟨ws, made', fr', ⟨v, o1', o2', e, ht, (KT.bel hb).trans hk, ⟨row_low ho.row hb.size, ho.n1, hbt, ho.u32⟩⟩, hs⟩
theorem DidT.form {base bt : Nat} {o1 o2 : Option Nat} {w : World} {ms : List Int} {made : Int} {t t' : TrM.Tr} {err : Int} {e : Ending} {w' : World} (h : DidT base bt o1 o2 w ms made t t' err e w') : ∃ v, e = .returned (.tuple #[v, .int .i64 err]) := by
  obtain ⟨ws, made', fr', ⟨v, o1', o2', e, ht, hk, ho⟩, hs⟩ := h
  exact ⟨v, e⟩

set_option maxRecDepth 100000 in
set_option maxHeartbeats 1000000 in
theorem do_set (bt : Nat) (ms : List Int) (made : Int) (fr : List Int) (o1 o2 : Option Nat) (t : TrM.Tr) (hfit : Fit ms made fr t) (m1 : made + 2 < 4294967296) (ad len way : Int) (a0 : 0 ≤ ad) (a1 : ad < 4294967296) (t' : TrM.Tr) (ht' : setT t ad len way = t') (err : Int) (herr : setErr ad len way = err) (w : World) (h : Tab (bt + 1) w bt ms made fr o1 o2) :
    Calls Try.prog 20 #[.pointer (some ⟨bt, 0, none⟩), .agg #[.int .u32 ad, .int .i64 len, .int .i64 way, .bool false]] w fun e w' => DidT (bt + 1) bt o1 o2 w ms made t t' err e w' := by
  have hbt : bt < w.heap.size := Nat.lt_of_lt_of_le h.lt h.le
  have HSET : Hid (∀ W, Tab (bt + 1) W bt ms made fr o1 o2 → Calls _ _ _ W _) := fun W hW => set_any (bt + 1) bt ms made fr o1 o2 t hfit m1 ad len way a0 a1 W hW
  rw [ht', herr] at HSET
  have H : Hid (Tab (bt + 1) w bt ms made fr o1 o2) := h
  clear h hfit ht' herr
  go_enter Try.func20, Try.ntmps20
  go_wp2_with fail
  obtain ⟨wA, hwA⟩ : ∃ wA, w.alloc (Obj.cells #[.int .u32 ad, .int .i64 len, .int .i64 way, .bool false] 56) = wA := ⟨_, rfl⟩
  have hbA : Below w.heap.size w wA := by rw [← hwA]; exact (Below.refl _ w).alloc (Nat.le_refl _) _
  rw [hwA]
  clear hwA
  refine (HSET.out wA (H.out.bel hbA)).mono ?_
  intro e w1 hd
  obtain ⟨v, rfl⟩ := hd.form
  have HD : Hid (DidT (bt + 1) bt o1 o2 w ms made t t' err (.returned (.tuple #[v, .int .i64 err])) w1) := hd.low hbA hbt
  clear hd
  go_wp2_with fail
  go_ret2
  exact HD.out
set_option maxRecDepth 100000 in
set_option maxHeartbeats 1000000 in
theorem do_drop (bt : Nat) (ms : List Int) (made : Int) (fr : List Int) (o1 o2 : Option Nat) (t : TrM.Tr) (hfit : Fit ms made fr t) (m1 : made + 2 < 4294967296) (ad len way : Int) (a0 : 0 ≤ ad) (a1 : ad < 4294967296) (t' : TrM.Tr) (ht' : (TrM.del t ad len).1 = t') (err : Int) (herr : dropErr t ad len = err) (w : World) (h : Tab (bt + 1) w bt ms made fr o1 o2) :
    Calls Try.prog 20 #[.pointer (some ⟨bt, 0, none⟩), .agg #[.int .u32 ad, .int .i64 len, .int .i64 way, .bool true]] w fun e w' => DidT (bt + 1) bt o1 o2 w ms made t t' err e w' := by
  have hbt : bt < w.heap.size := Nat.lt_of_lt_of_le h.lt h.le
  have HSET : Hid (∀ W, Tab (bt + 1) W bt ms made fr o1 o2 → Calls _ _ _ W _) := fun W hW => drop_any (bt + 1) bt ms made fr o1 o2 t hfit (by omega) ad len a0 a1 W hW
  rw [ht', herr] at HSET
  have H : Hid (Tab (bt + 1) w bt ms made fr o1 o2) := h
  clear h hfit ht' herr
  go_enter Try.func20, Try.ntmps20
  go_wp2_with fail
  obtain ⟨wA, hwA⟩ : ∃ wA, w.alloc (Obj.cells #[.int .u32 ad, .int .i64 len, .int .i64 way, .bool true] 56) = wA := ⟨_, rfl⟩
  have hbA : Below w.heap.size w wA := by rw [← hwA]; exact (Below.refl _ w).alloc (Nat.le_refl _) _
  rw [hwA]
  clear hwA
  refine (HSET.out wA (H.out.bel hbA)).mono ?_
  intro e w1 hd
  obtain ⟨v, rfl⟩ := hd.form
  have HD : Hid (DidT (bt + 1) bt o1 o2 w ms made t t' err (.returned (.tuple #[v, .int .i64 err])) w1) := hd.low hbA hbt
  clear hd
  go_wp2_with fail
  go_ret2
  exact HD.out

set_option maxRecDepth 100000 in
set_option maxHeartbeats 1000000 in
theorem new_tab (w : World) : Calls Try.prog 17 #[] w fun e w' => e = .returned (.pointer (some ⟨w.heap.size, 0, none⟩)) ∧ Tab (w.heap.size + 1) w' w.heap.size [] 0 [] none none ∧ Below w.heap.size w w' ∧ w'.heap.size = w.heap.size + 1 := by
  go_enter Try.func17, Try.ntmps17
  go_wp2_with fail
  go_ret
  refine ⟨rfl, ⟨⟨⟨.slice none 0 0, by simp, World.ownsRow_nil _ _ _ _, rfl⟩, by simp, by omega, by simp, by simp⟩, by simp, by simp, ⟨.slice none 0 0, by simp, World.ownsRow_nil _ _ _ _, rfl⟩, by simp, by simp, by simp⟩, (Below.refl _ w).alloc (Nat.le_refl _) _, by simp⟩

/-- a list of steps lies at a slice -/
structure Arr4 (w : World) (a : Option Addr) (ss : List (Int × Int × Int × Bool)) : Prop where
  small : ss.length ≤ 9223372036854775807
  cells : ∀ i (h : i < ss.length), ∃ b o, a = some ⟨b, o, none⟩ ∧ b < w.heap.size ∧ w.cell? ⟨b, o + i * 4, none⟩ = some (.int .u32 ss[i].1) ∧ w.cell? ⟨b, o + i * 4 + 1, none⟩ = some (.int .i64 ss[i].2.1) ∧ w.cell? ⟨b, o + i * 4 + 2, none⟩ = some (.int .i64 ss[i].2.2.1) ∧ w.cell? ⟨b, o + i * 4 + 3, none⟩ = some (.bool ss[i].2.2.2)
  u32 : ∀ d ∈ ss, In32 d.1
theorem Arr4.bel {w w' : World} {a : Option Addr} {ss : List (Int × Int × Int × Bool)} (h : Arr4 w a ss) (hb : Below w.heap.size w w') : Arr4 w' a ss :=
  ⟨h.small, fun i hi => by
    obtain ⟨b, o, e, hlt, h0, h1, h2, h3⟩ := h.cells i hi
    have hk := hb.block b hlt
    exact ⟨b, o, e, Nat.lt_of_lt_of_le hlt hb.size, (World.cell?_of_block (w := w) hk).trans h0, (World.cell?_of_block (w := w) hk).trans h1, (World.cell?_of_block (w := w) hk).trans h2, (World.cell?_of_block (w := w) hk).trans h3⟩, h.u32⟩
/-- a step's own box -/
structure Box4 (lo : Nat) (o : Option Nat) (b : Nat) (ad len way : Int) (dr : Bool) (w : World) : Prop where
  c0 : w.cell? ⟨b, 0, none⟩ = some (.int .u32 ad)
  c1 : w.cell? ⟨b, 1, none⟩ = some (.int .i64 len)
  c2 : w.cell? ⟨b, 2, none⟩ = some (.int .i64 way)
  c3 : w.cell? ⟨b, 3, none⟩ = some (.bool dr)
  lt : lo ≤ b ∧ b < w.heap.size
  ne : some b ≠ o
theorem Box4.keep {lo b : Nat} {o o' : Option Nat} {ad len way : Int} {dr : Bool} {w w' : World} (h : Box4 lo o b ad len way dr w) (hs : w.heap.size ≤ w'.heap.size) (hb : w'.heap[b]? = w.heap[b]?) (hn : some b ≠ o') : Box4 lo o' b ad len way dr w' :=
  ⟨(World.cell?_of_block (w := w) hb).trans h.c0, (World.cell?_of_block (w := w) hb).trans h.c1, (World.cell?_of_block (w := w) hb).trans h.c2, (World.cell?_of_block (w := w) hb).trans h.c3, ⟨h.lt.1, Nat.lt_of_lt_of_le h.lt.2 hs⟩, hn⟩
/-- writes that lie apart from a list and above what is old -/
structure Wr7 (lo : Nat) (o : Option Nat) (a : Option Addr) (ws : List (Nat × Int)) (w : World) : Prop where
  small : ws.length ≤ 9223372036854775807
  cells : ∀ i (h : i < ws.length), ∃ b p, a = some ⟨b, p, none⟩ ∧ (lo ≤ b ∧ b < w.heap.size) ∧ some b ≠ o ∧ w.cell? ⟨b, p + i * 2, none⟩ = some (.int .i64 (ws[i].1 : Int)) ∧ w.cell? ⟨b, p + i * 2 + 1, none⟩ = some (.int .u32 ws[i].2)
  u32 : ∀ y ∈ ws, In32 y.2
theorem Wr7.keep {lo : Nat} {o o' : Option Nat} {a : Option Addr} {ws : List (Nat × Int)} {w w' : World} (h : Wr7 lo o a ws w) (hs : w.heap.size ≤ w'.heap.size) (hk : ∀ b, lo ≤ b → b < w.heap.size → some b ≠ o → w'.heap[b]? = w.heap[b]? ∧ some b ≠ o') : Wr7 lo o' a ws w' :=
  ⟨h.small, fun i hi => by
    obtain ⟨b, p, e, ⟨hlo, hlt⟩, hne, h0, h1⟩ := h.cells i hi
    obtain ⟨hb, hn⟩ := hk b hlo hlt hne
    exact ⟨b, p, e, ⟨hlo, Nat.lt_of_lt_of_le hlt hs⟩, hn, (World.cell?_of_block (w := w) hb).trans h0, (World.cell?_of_block (w := w) hb).trans h1⟩, h.u32⟩

theorem four (w : World) (a n v : Int) (d : Bool) (T : Nat) (o : Option Nat) (lo : Nat) (hlo : lo ≤ w.heap.size) (ho : ∀ g, o = some g → g < w.heap.size) : Box4 lo o w.heap.size a n v d (w.alloc (Obj.cells #[.int .u32 a, .int .i64 n, .int .i64 v, .bool d] T)) :=
  ⟨by simp, by simp, by simp, by simp, ⟨hlo, by simp⟩, fun e => by have := ho _ e.symm; omega⟩
end Go.Proofs.Ytjhdjbhpofhiaab.Fb
