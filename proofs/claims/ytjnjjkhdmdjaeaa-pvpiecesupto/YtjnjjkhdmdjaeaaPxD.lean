/- A stream: what is missing, whether a message is whole. -/
import Derived.Test.YtjnjjkhdmdjaeaaGeB
import Derived.Test.YtjnjjkhdmdjaeaaPxB
import Derived.Test.YtjnjjkhdmdjaeaaPxC
namespace Go.Proofs.Ytjnjjkhdmdjaeaa.Pv
open Go.ChangeShapes Go.WideShapes Go.ChangeAt Go.RowKit Go.Joins Go.Proofs.Ytjnjjkhdmdjaeaa.PM Go.Proofs.Ytjnjjkhdmdjaeaa.Ask Go.Proofs.Ytjnjjkhdmdjaeaa.Ge
set_option linter.unusedVariables false

/-- a stream's box: the bytes that wait, the fault -/
structure Stm (N : Nat) (W : World) (b : Nat) (a : Option Addr) (c : Nat) (x : List Nat) (f : Int) : Prop where
  box : W.heap[b]? = some (Obj.cells #[.slice a x.length c, .int .i64 f] 68)
  own : OwnL E8 N W (.slice a x.length c) x
  lt : b < N
  u8 : ∀ d ∈ x, d < 256
theorem Stm.hl {N : Nat} {W : World} {b : Nat} {a : Option Addr} {c : Nat} {x : List Nat} {f : Int} (h : Stm N W b a c x f) : b < W.heap.size := (Array.getElem?_eq_some_iff.1 h.box).1
theorem Stm.c0 {N : Nat} {W : World} {b : Nat} {a : Option Addr} {c : Nat} {x : List Nat} {f : Int} (h : Stm N W b a c x f) : W.cell? ⟨b, 0, none⟩ = some (.slice a x.length c) := by unfold World.cell?; rw [h.box]; rfl
theorem Stm.c1 {N : Nat} {W : World} {b : Nat} {a : Option Addr} {c : Nat} {x : List Nat} {f : Int} (h : Stm N W b a c x f) : W.cell? ⟨b, 1, none⟩ = some (.int .i64 f) := by unfold World.cell?; rw [h.box]; rfl
theorem Stm.f0 {N : Nat} {W : World} {b : Nat} {a : Option Addr} {c : Nat} {x : List Nat} {f : Int} (h : Stm N W b a c x f) (i : Nat) : W.frozen? ⟨b, i, none⟩ = false := by unfold World.frozen?; rw [h.box]; simp
theorem Stm.blk {N : Nat} {W W' : World} {b : Nat} {a : Option Addr} {c : Nat} {x : List Nat} {f : Int} (h : Stm N W b a c x f) (h1 : W'.heap[b]? = W.heap[b]?) (h2 : ∀ g, ob a = some g → N ≤ g → g < W.heap.size → W'.heap[g]? = W.heap[g]?) : Stm N W' b a c x f :=
  ⟨h1.trans h.box, own_obk h.own h2, h.lt, h.u8⟩
theorem Stm.bel {N : Nat} {W W' : World} {b : Nat} {a : Option Addr} {c : Nat} {x : List Nat} {f : Int} (h : Stm N W b a c x f) (hb : Below W.heap.size W W') : Stm N W' b a c x f := h.blk (hb.block b h.hl) (fun g _ _ hl => hb.block g hl)
theorem Stm.fault {N : Nat} {W : World} {b : Nat} {a : Option Addr} {c : Nat} {x : List Nat} {f : Int} (h : Stm N W b a c x f) (f2 : Int) : Stm N (W.setCell ⟨b, 1, none⟩ (.int .i64 f2)) b a c x f2 := by
  refine ⟨?_, own_obk h.own (fun g _ hg _ => Below.heap_setCell W ⟨b, 1, none⟩ _ g (by have := h.lt; show g ≠ b; omega)), h.lt, h.u8⟩
  rw [heap_setCell_same W b 1 _ _ _ h.box]
  rfl
theorem Stm.none {N : Nat} {W : World} {b : Nat} {a : Option Addr} {c : Nat} {x : List Nat} {f : Int} (h : Stm N W b a c x f) : Stm N (W.setCell ⟨b, 0, none⟩ (.slice none 0 0)) b none 0 [] f := by
  refine ⟨?_, OwnL.nil _ _ _, h.lt, fun d hd => by cases hd⟩
  rw [heap_setCell_same W b 0 _ _ _ h.box]
  rfl
set_option maxRecDepth 100000 in
set_option maxHeartbeats 4000000 in
theorem missing_any (N : Nat) (b : Nat) (a : Option Addr) (c : Nat) (x : List Nat) (f : Int) (w : World) (h : Stm N w b a c x f) (hs : 6 ≤ x.length → x.length ≤ szOf x) (hsm : x.length ≤ 1048576) (k : Nat) (hk : misN x = k) :
    Calls Try.prog 34 #[.pointer (some ⟨b, 0, none⟩)] w fun e w' => e = .returned (.int .i64 (k : Int)) ∧ Below w.heap.size w w' := by
  have H : Hid (Stm N w b a c x f) := h
  obtain ⟨n, hn⟩ : ∃ n, x.length = n := ⟨_, rfl⟩
  have HN : Hid (x.length = n) := hn
  have c0 := h.c0
  rw [hn] at c0 hs hsm
  have HK : Hid (misN x = k) := hk
  clear h hn hk
  by_cases h6 : 6 ≤ n
  · have hs6 := hs h6
    obtain ⟨z, hz⟩ : ∃ z, szOf x = z := ⟨_, rfl⟩
    have HZ : Hid (szOf x = z) := hz
    have hkz : k = z - n := by
      rw [← HK.out]
      unfold misN
      rw [HN.out, if_neg (by omega), hz]
    rw [hz] at hs6
    have hz16 : z < 65536 := by
      rw [← hz]
      unfold szOf
      have h5 := num_lt (bs := (x.drop 4).take 2) (take_u8 (drop_u8 H.out.u8 4) 2) 2 (by rw [List.length_take, List.length_drop, HN.out]; omega)
      rw [List.take_of_length_le (by rw [List.length_take]; omega)] at h5
      simpa using h5
    have HT : Hid (Calls Try.prog 68 #[.slice a n c] w fun e w' => e = .returned (.bool true) ∧ w' = w) := by
      have h5 := tells_any a c n w
      rw [show decide (6 ≤ n) = true by simp [h6]] at h5
      exact h5
    have HSZ : Hid (∀ q, Calls Try.prog 37 #[.slice a n c] (w.drewN q) fun e w' => e = .returned (.int .i64 (z : Nat)) ∧ w' = w.drewN q) := fun q => by
      have hcap := own_cap H.out.own
      rw [HN.out] at hcap
      have h5 := sizeOf_any a c x n HN.out h6 hcap (w.drewN q) (H.out.own.lst.1.bel (drewN_bel w q)) H.out.u8
      rw [show num ((x.drop 4).take 2) = z from HZ.out] at h5
      exact h5
    have hzk : (z : Int) - (n : Int) = (k : Int) := by omega
    clear hs hz
    go_enter Try.func34, Try.ntmps34
    go_wp2_with fail
    refine HT.out.mono ?_
    rintro e w5 ⟨rfl, hw5⟩
    rw [hw5]
    clear hw5 w5
    go_wp2_with fail
    go_quiet ((go_at_call 37; exact Calls.quiet_of_same (HSZ.out _)))
    go_wp2_with fail
    go_ret
    exact ⟨ret_i64 (by omega), drewN_bel w nq⟩
  · have hkz : k = 6 - n := by
      rw [← HK.out]
      unfold misN
      rw [HN.out, if_pos (by omega)]
    have HT : Hid (Calls Try.prog 68 #[.slice a n c] w fun e w' => e = .returned (.bool false) ∧ w' = w) := by
      have h5 := tells_any a c n w
      rw [show decide (6 ≤ n) = false by simp; omega] at h5
      exact h5
    have hzk : (6 : Int) - (n : Int) = (k : Int) := by omega
    go_enter Try.func34, Try.ntmps34
    go_wp2_with fail
    refine HT.out.mono ?_
    rintro e w5 ⟨rfl, hw5⟩
    rw [hw5]
    clear hw5 w5
    go_wp2_with fail
    go_ret
    exact ⟨ret_i64 (by omega), Below.refl _ _⟩
def MgPost (N : Nat) (w : World) (b : Nat) (a0 : Option Addr) (y : List Nat) (e : Ending) (w' : World) : Prop :=
  ∃ m s a c, e = .returned (.tuple #[msV m s, .bool (msgP y).1.isSome]) ∧ (∀ m', (msgP y).1 = some m' → m = m') ∧ MO w.heap.size w' m s ∧ Stm N w' b a c (msgP y).2.1 (msgP y).2.2 ∧ Kr w b w' ∧ (∀ g, ob a = some g → ob a0 = some g)
theorem msg_res {W : World} {bd : Nat} {m : Ms} {s : Sl} {t : Bool} (h : MB bd m s W) {tm : Array Value} (t2 : (tm[2]?).getD undef = .pointer (some ⟨bd, 0, none⟩)) (t3 : (tm[3]?).getD undef = .bool t) : (results Try.f35 tm).run Try.prog W = .ok (.tuple #[msV m s, .bool t]) W := by
  obtain ⟨c0, c1, c2, c3, c4, c5, c6, c7, c8, c9, c10, c11, c12, c13, c14, c15, c16⟩ := h.box
  unfold msV
  simp [results, Try.results35, go_sem, t2, t3, c0, c1, c2, c3, c4, c5, c6, c7, c8, c9, c10, c11, c12, c13, c14, c15, c16]
theorem Kr.c1set {w w1 : World} {b : Nat} (h : Kr w b w1) (i : Nat) (v : Value) : Kr w b (w1.setCell ⟨b, i, none⟩ v) := h.trans (Kr.set b i w1 v)
theorem step_off {K' : Prop} {E : Prop} {c : Bool} (hc : c = false) (hk : K') : if c = true then E else K' := by
  subst hc
  exact hk
theorem fload_run {o : Oper} (x : Operand) (ho : o.op = .load 32 x) {ρ : Operand → Value} {N : Nat} {b : Nat} (hx : ρ x = .pointer (some ⟨b, 1, none⟩)) {a : Option Addr} {c : Nat} {y : List Nat} {f : Int} {W : World} (h : Stm N W b a c y f) : (execOp ρ o).run Try.prog W = .ok (.value (.int .i64 f)) W := by
  have c1 := h.c1
  unfold execOp
  rw [ho]
  simp [go_sem, hx, c1]
theorem Stm.drew {N : Nat} {W : World} {b : Nat} {a : Option Addr} {c : Nat} {x : List Nat} {f : Int} (h : Stm N W b a c x f) : Stm N W.drew b a c x f := h.bel (drew_bel W)
end Go.Proofs.Ytjnjjkhdmdjaeaa.Pv
