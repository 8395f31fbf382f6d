/- A forwarding table beside a trie and a list of words: what each leaves of the others. -/
import Derived.Test.YtbahngpmafdfcacFbYd
import Derived.Test.YtbahngpmafdfcacFbL
import Derived.Test.YtbahngpmafdfcacTrS
namespace Go.Proofs.Ytbahngpmafdfcac.Tri
open Go.ChangeShapes Go.WideShapes Go.ChangeAt Go.RowKit Go.Proofs.Ytbahngpmafdfcac.PM Go.Proofs.Ytbahngpmafdfcac.TrM Go.Proofs.Ytbahngpmafdfcac.Ask
set_option linter.unusedVariables false
def TurnedH (ok : Nat → Prop) (bt : Nat) (t : Tr) (had : Bool) (w : World) (e : Ending) (w' : World) : Prop :=
  ∃ old p c, e = .returned (.tuple #[.int .i64 old, .bool had]) ∧ But bt w w' ∧ Holds ok w' bt t p c
theorem Turned.had {ok : Nat → Prop} {bt : Nat} {t : Tr} {had : Bool} {old : Int} {w w' : World} (h : Turned ok bt t w (.returned (.tuple #[.int .i64 old, .bool had])) w') : TurnedH ok bt t had w (.returned (.tuple #[.int .i64 old, .bool had])) w' := by
  obtain ⟨old', had', p, c, e, hb, hh⟩ := h
  exact ⟨old, p, c, rfl, hb, hh⟩
set_option maxHeartbeats 1000000 in
theorem drop_had (ok : Nat → Prop) (bt : Nat) (t : Tr) (p : Option Addr) (c a n : Int) (w : World) (hh : Holds ok w bt t p c) (hok : ¬ ok bt) (hnew : ∀ b, w.heap.size ≤ b → ok b) (a0 : 0 ≤ a) (a1 : a < 4294967296) (hd : Bool) (hhd : (del t a n).2 = hd) :
    Calls Try.prog 19 #[.pointer (some ⟨bt, 0, none⟩), .agg #[.int .u32 a, .int .i64 n]] w fun e w' => TurnedH ok bt (del t a n).1 hd w e w' := by
  have HH : Hid (Holds ok w bt t p c) := hh
  have hlt := hh.lt
  obtain ⟨hbA, hsA, hbx⟩ := boxed w a n 32
  have HBX : Hid (Box _ _ a n) := hbx
  have HHD : Hid ((del t a n).2 = hd) := hhd
  clear hh hbx hhd
  go_enter Try.func19, Try.ntmps19
  go_wp2_with fail
  generalize w.alloc (Obj.cells #[.int .u32 a, .int .i64 n] 32) = wA at *
  have HHA : Hid (Holds ok wA bt t p c) := HH.out.bel hbA
  have HK : Hid (∀ k, Calls Try.prog 49 #[.pointer p, .agg #[.int .u32 a, .int .i64 n]] (wA.drewN k) fun e w' => ∃ q old, e = .returned (.tuple #[.pointer q, .int .i64 old, .bool hd]) ∧ Below wA.heap.size wA w' ∧ Rep ok w' (del t a n).1 q) := by
    intro k
    refine (without_any t p (wA.drewN k) ok a n a0 a1 (HHA.out.rep.drew k) (fun b hb => hnew b (Nat.le_trans (by omega) (show wA.heap.size ≤ b from hb)))).mono ?_
    rintro e w' ⟨q, old, rfl, hb, hq⟩
    exact ⟨q, old, by rw [HHD.out], (bel_q wA k).trans hb, hq⟩
  obtain ⟨r0, r1, f0, f1, hltA, -⟩ := HHA.out
  obtain ⟨x0, x1⟩ := HBX.out
  cases hd with
  | false =>
    go_region_with (first | (go_at_call 49; refine (HK.out 1).mono ?_; rintro e w3 ⟨q, old, rfl, hb3, hrep⟩))
    all_goals
      have HH3 : Hid (Holds ok w3 bt t p c) := HHA.out.bel hb3
      have hb03 : Below w.heap.size w w3 := hbA.trans (hb3.mono hbA.size)
      clear HK r0 r1 f0 f1 x0 x1 HHA HBX
      obtain ⟨r0, r1, f0, f1, hlt3, -⟩ := HH3.out
      go_wp2_with fail
      go_ret2
      exact (turned_one hok hb03 HH3.out hrep).had
  | true =>
    go_region_with (first | (go_at_call 49; refine (HK.out 1).mono ?_; rintro e w3 ⟨q, old, rfl, hb3, hrep⟩))
    all_goals
      have HH3 : Hid (Holds ok w3 bt t p c) := HHA.out.bel hb3
      have hb03 : Below w.heap.size w w3 := hbA.trans (hb3.mono hbA.size)
      clear HK r0 r1 f0 f1 x0 x1 HHA HBX
      obtain ⟨r0, r1, f0, f1, hlt3, -⟩ := HH3.out
      go_wp2_with fail
      go_ret2
      exact (turned_two hok hb03 HH3.out hrep).had
theorem Cells.keep {w w' : World} {b : Nat} {a n v : Int} {h : Bool} {pl pr : Option Addr} (hc : Cells w b a n v h pl pr) (hb : w'.heap[b]? = w.heap[b]?) : Cells w' b a n v h pl pr := by
  obtain ⟨h0, h1, h2, h3, h4, h5⟩ := hc
  have k : ∀ o, w'.cell? ⟨b, o, none⟩ = w.cell? ⟨b, o, none⟩ := fun o => World.cell?_of_block (w := w) hb
  exact ⟨by rw [k, h0], by rw [k, h1], by rw [k, h2], by rw [k, h3], by rw [k, h4], by rw [k, h5]⟩
theorem Rep.keep {ok ok' : Nat → Prop} {w w' : World} {t : Tr} {p : Option Addr} (h : Rep ok w t p) (hs : w.heap.size ≤ w'.heap.size) (hk : ∀ b, ok b → b < w.heap.size → ok' b ∧ w'.heap[b]? = w.heap[b]?) : Rep ok' w' t p := by
  induction t generalizing p with
  | nil => exact h
  | node a n v hh l r il ir =>
    obtain ⟨hb, b, pl, pr, e, hlt, hok, hc, hl, hr⟩ := h
    exact ⟨hb, b, pl, pr, e, Nat.lt_of_lt_of_le hlt hs, (hk b hok hlt).1, hc.keep (hk b hok hlt).2, il hl, ir hr⟩
theorem Holds.keep {ok ok' : Nat → Prop} {w w' : World} {bt : Nat} {t : Tr} {p : Option Addr} {c : Int} (h : Holds ok w bt t p c) (hs : w.heap.size ≤ w'.heap.size) (hb : w'.heap[bt]? = w.heap[bt]?) (hk : ∀ b, ok b → b < w.heap.size → ok' b ∧ w'.heap[b]? = w.heap[b]?) : Holds ok' w' bt t p c :=
  ⟨(World.cell?_of_block (w := w) hb).trans h.root, (World.cell?_of_block (w := w) hb).trans h.count, (World.frozen?_of_block (w := w) hb).trans h.f0, (World.frozen?_of_block (w := w) hb).trans h.f1, Nat.lt_of_lt_of_le h.lt hs, h.rep.keep hs hk⟩
end Go.Proofs.Ytbahngpmafdfcac.Tri

namespace Go.Proofs.Ytbahngpmafdfcac.Fb
open Go.ChangeShapes Go.WideShapes Go.ChangeAt Go.RowKit Go.Joins Go.Proofs.Ytbahngpmafdfcac.PM Go.Proofs.Ytbahngpmafdfcac.Ask
set_option linter.unusedVariables false

/-- what is neither the table's, nor the trie's own block, nor the list's -/
def Oth (bt b2 : Nat) (o1 o2 ou : Option Nat) (b : Nat) : Prop := b ≠ bt ∧ b ≠ b2 ∧ some b ≠ o1 ∧ some b ≠ o2 ∧ some b ≠ ou
/-- a trie and a list of words beside a table -/
structure Env (bt b2 N : Nat) (o1 o2 : Option Nat) (t2 : TrM.Tr) (u : Value) (mm : List Int) (w : World) : Prop where
  own : OwnU N w u mm
  tri : ∃ p c, Tri.Holds (Oth bt b2 o1 o2 u.ownBlock) w b2 t2 p c
  lt : bt < b2 ∧ b2 < N ∧ N ≤ w.heap.size
  n1 : some b2 ≠ o1 ∧ some b2 ≠ o2
  n2 : ∀ g, u.ownBlock = some g → some g ≠ o1 ∧ some g ≠ o2
section
variable {bt b2 N : Nat} {o1 o2 o1' o2' : Option Nat} {t2 t2' : TrM.Tr} {u u' : Value} {mm mm' ms fr : List Int} {made : Int} {w w' : World}
theorem Env.ge (h : Env bt b2 N o1 o2 t2 u mm w) : ∀ g, u.ownBlock = some g → N ≤ g ∧ g < w.heap.size := fun g e => h.own.row.lt g e
theorem Env.kt (h : Env bt b2 N o1 o2 t2 u mm w) (k : KT bt w o1 o2 w' o1' o2') : Env bt b2 N o1' o2' t2 u mm w' := by
  obtain ⟨l1, l2, l3⟩ := h.lt
  have hb2 : b2 < w.heap.size := by omega
  refine ⟨⟨row_kept h.own.row (fun g e => ?_), h.own.u32⟩, ?_, ⟨l1, l2, Nat.le_trans l3 k.size⟩, ⟨k.ne1 hb2 h.n1.1, k.ne2 hb2 h.n1.2⟩, fun g e => ?_⟩
  · have := h.ge g e
    exact k.block g this.2 (by omega) (h.n2 g e).1 (h.n2 g e).2
  · obtain ⟨p, c, hh⟩ := h.tri
    exact ⟨p, c, hh.keep k.size (k.block b2 hb2 (by omega) h.n1.1 h.n1.2) (fun b ho hb => ⟨⟨ho.1, ho.2.1, k.ne1 hb ho.2.2.1, k.ne2 hb ho.2.2.2.1, ho.2.2.2.2⟩, k.block b hb ho.1 ho.2.2.1 ho.2.2.2.1⟩)⟩
  · have := h.ge g e
    exact ⟨k.ne1 this.2 (h.n2 g e).1, k.ne2 this.2 (h.n2 g e).2⟩
theorem Env.bel (h : Env bt b2 N o1 o2 t2 u mm w) (hb : Below w.heap.size w w') : Env bt b2 N o1 o2 t2 u mm w' := h.kt (KT.bel hb)
theorem Env.ko (h : Env bt b2 N o1 o2 t2 u mm w) (ht : Tab (bt + 1) w bt ms made fr o1 o2) (ho : OwnU N w' u' mm') (k : KO w u.ownBlock w' u'.ownBlock) : Env bt b2 N o1 o2 t2 u' mm' w' ∧ Tab (bt + 1) w' bt ms made fr o1 o2 := by
  obtain ⟨l1, l2, l3⟩ := h.lt
  have hne : ∀ b, b < w.heap.size → (b = bt ∨ b = b2 ∨ some b = o1 ∨ some b = o2) → some b ≠ u.ownBlock := fun b hb hc e => by
    have := h.ge b e.symm
    have g := h.n2 b e.symm
    rcases hc with e | e | e | e
    · omega
    · omega
    · exact g.1 e
    · exact g.2 e
  refine ⟨⟨ho, ?_, ⟨l1, l2, Nat.le_trans l3 k.size⟩, h.n1, fun g e => ?_⟩, ht.else k.str (fun b hb hc => k.block b hb (hne b hb (hc.imp id (fun h => .inr h))))⟩
  · obtain ⟨p, c, hh⟩ := h.tri
    exact ⟨p, c, hh.keep k.size (k.block b2 (by omega) (hne b2 (by omega) (.inr (.inl rfl)))) (fun b ho hb => ⟨⟨ho.1, ho.2.1, ho.2.2.1, ho.2.2.2.1, k.ne hb ho.2.2.2.2⟩, k.block b hb ho.2.2.2.2⟩)⟩
  · rcases k.now with e2 | ⟨g2, e2, hg⟩
    · exact h.n2 g (by rw [← e2, e])
    · rw [e2] at e; cases e
      exact ⟨fun e => by have := (ht.in1 _ e.symm).2; omega, fun e => by have := (ht.in2 _ e.symm).2; omega⟩
theorem Env.but (h : Env bt b2 N o1 o2 t2 u mm w) (ht : Tab (bt + 1) w bt ms made fr o1 o2) (hb : Tri.But b2 w w') {p : Option Addr} {c : Int} (hh : Tri.Holds (Oth bt b2 o1 o2 u.ownBlock) w' b2 t2' p c) : Env bt b2 N o1 o2 t2' u mm w' ∧ Tab (bt + 1) w' bt ms made fr o1 o2 := by
  obtain ⟨l1, l2, l3⟩ := h.lt
  refine ⟨⟨⟨row_kept h.own.row (fun g e => hb.block g (h.ge g e).2 (by have := (h.ge g e).1; omega)), h.own.u32⟩, ⟨p, c, hh⟩, ⟨l1, l2, Nat.le_trans l3 hb.size⟩, h.n1, h.n2⟩, ht.else ⟨hb.os, hb.tape, hb.output, hb.size, fun k hk => absurd hk (by omega)⟩ (fun b hbl hc => hb.block b hbl (fun e => ?_))⟩
  subst e
  rcases hc with e | e | e
  · omega
  · exact h.n1.1 e
  · exact h.n1.2 e
theorem Env.ok (h : Env bt b2 N o1 o2 t2 u mm w) (ht : Tab (bt + 1) w bt ms made fr o1 o2) : ¬ Oth bt b2 o1 o2 u.ownBlock b2 ∧ ∀ b, w.heap.size ≤ b → Oth bt b2 o1 o2 u.ownBlock b := by
  obtain ⟨l1, l2, l3⟩ := h.lt
  refine ⟨fun ho => ho.2.1 rfl, fun b hb => ⟨by omega, by omega, fun e => ?_, fun e => ?_, fun e => ?_⟩⟩
  · have := (ht.in1 b e.symm).2; omega
  · have := (ht.in2 b e.symm).2; omega
  · have := (h.ge b e.symm).2; omega
end

theorem DidT.low {base bt : Nat} {o1 o2 : Option Nat} {w wA : World} {ms : List Int} {made : Int} {t t' : TrM.Tr} {err : Int} {e : Ending} {w' : World} (h : DidT base bt o1 o2 wA ms made t t' err e w') (hb : Below w.heap.size w wA) (hbt : bt < w.heap.size) : DidT base bt o1 o2 w ms made t t' err e w' := by
  obtain ⟨ws, made', fr', ⟨v, o1', o2', e, ht, hk, ho⟩, hs⟩ := h
  exact ⟨ws, made', fr', ⟨v, o1', o2', e, ht, (KT.bel hb).trans hk, ⟨row_low ho.row hb.size, ho.n1, hbt, ho.u32⟩⟩, hs⟩
theorem DidT.form {base bt : Nat} {o1 o2 : Option Nat} {w : World} {ms : List Int} {made : Int} {t t' : TrM.Tr} {err : Int} {e : Ending} {w' : World} (h : DidT base bt o1 o2 w ms made t t' err e w') : ∃ v, e = .returned (.tuple #[v, .int .i64 err]) := by
  obtain ⟨ws, made', fr', ⟨v, o1', o2', e, ht, hk, ho⟩, hs⟩ := h
  exact ⟨v, e⟩

set_option maxRecDepth 100000 in
set_option maxHeartbeats 1000000 in
theorem do_set (bt : Nat) (ms : List Int) (made : Int) (fr : List Int) (o1 o2 : Option Nat) (t : TrM.Tr) (hfit : Fit ms made fr t) (m1 : made + 2 < 4294967296) (ad len way : Int) (a0 : 0 ≤ ad) (a1 : ad < 4294967296) (t' : TrM.Tr) (ht' : setT t ad len way = t') (err : Int) (herr : setErr ad len way = err) (w : World) (h : Tab (bt + 1) w bt ms made fr o1 o2) :
    Calls Try.prog 11 #[.pointer (some ⟨bt, 0, none⟩), .agg #[.int .u32 ad, .int .i64 len, .int .i64 way, .bool false]] w fun e w' => DidT (bt + 1) bt o1 o2 w ms made t t' err e w' := by
  have hbt : bt < w.heap.size := Nat.lt_of_lt_of_le h.lt h.le
  have HSET : Hid (∀ W, Tab (bt + 1) W bt ms made fr o1 o2 → Calls _ _ _ W _) := fun W hW => set_any (bt + 1) bt ms made fr o1 o2 t hfit m1 ad len way a0 a1 W hW
  rw [ht', herr] at HSET
  have H : Hid (Tab (bt + 1) w bt ms made fr o1 o2) := h
  clear h hfit ht' herr
  go_enter Try.func11, Try.ntmps11
  go_wp2_with fail
  obtain ⟨wA, hwA⟩ : ∃ wA, w.alloc (Obj.cells #[.int .u32 ad, .int .i64 len, .int .i64 way, .bool false] 34) = wA := ⟨_, rfl⟩
  have hbA : Below w.heap.size w wA := by rw [← hwA]; exact (Below.refl _ w).alloc (Nat.le_refl _) _
  rw [hwA]
  clear hwA
  refine (HSET.out wA (H.out.bel hbA)).mono ?_
  intro e w1 hd
  obtain ⟨v, rfl⟩ := hd.form
  have HD : Hid (DidT (bt + 1) bt o1 o2 w ms made t t' err (.returned (.tuple #[v, .int .i64 err])) w1) := hd.low hbA hbt
  clear hd
  go_wp2_with fail
  go_ret2
  exact HD.out
set_option maxRecDepth 100000 in
set_option maxHeartbeats 1000000 in
theorem do_drop (bt : Nat) (ms : List Int) (made : Int) (fr : List Int) (o1 o2 : Option Nat) (t : TrM.Tr) (hfit : Fit ms made fr t) (m1 : made + 2 < 4294967296) (ad len way : Int) (a0 : 0 ≤ ad) (a1 : ad < 4294967296) (t' : TrM.Tr) (ht' : (TrM.del t ad len).1 = t') (err : Int) (herr : dropErr t ad len = err) (w : World) (h : Tab (bt + 1) w bt ms made fr o1 o2) :
    Calls Try.prog 11 #[.pointer (some ⟨bt, 0, none⟩), .agg #[.int .u32 ad, .int .i64 len, .int .i64 way, .bool true]] w fun e w' => DidT (bt + 1) bt o1 o2 w ms made t t' err e w' := by
  have hbt : bt < w.heap.size := Nat.lt_of_lt_of_le h.lt h.le
  have HSET : Hid (∀ W, Tab (bt + 1) W bt ms made fr o1 o2 → Calls _ _ _ W _) := fun W hW => drop_any (bt + 1) bt ms made fr o1 o2 t hfit (by omega) ad len a0 a1 W hW
  rw [ht', herr] at HSET
  have H : Hid (Tab (bt + 1) w bt ms made fr o1 o2) := h
  clear h hfit ht' herr
  go_enter Try.func11, Try.ntmps11
  go_wp2_with fail
  obtain ⟨wA, hwA⟩ : ∃ wA, w.alloc (Obj.cells #[.int .u32 ad, .int .i64 len, .int .i64 way, .bool true] 34) = wA := ⟨_, rfl⟩
  have hbA : Below w.heap.size w wA := by rw [← hwA]; exact (Below.refl _ w).alloc (Nat.le_refl _) _
  rw [hwA]
  clear hwA
  refine (HSET.out wA (H.out.bel hbA)).mono ?_
  intro e w1 hd
  obtain ⟨v, rfl⟩ := hd.form
  have HD : Hid (DidT (bt + 1) bt o1 o2 w ms made t t' err (.returned (.tuple #[v, .int .i64 err])) w1) := hd.low hbA hbt
  clear hd
  go_wp2_with fail
  go_ret2
  exact HD.out
end Go.Proofs.Ytbahngpmafdfcac.Fb
