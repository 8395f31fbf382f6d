/- heap.Push, heap.Pop of a queue's turns. -/
import Derived.Test.YthhdpfgepjmgkaaDjJ
namespace Go.Proofs.Ythhdpfgepjmgkaa.Dj
open Go.ChangeShapes Go.WideShapes Go.ChangeAt Go.RowKit Go.Joins Go.Deep Go.Proofs.Ythhdpfgepjmgkaa.Ge
set_option linter.unusedVariables false
set_option linter.unusedSimpArgs false

set_option maxRecDepth 100000 in
theorem meth_ptr (nm : String) (f : Nat) (W : World) (b : Nat) (hm : ∃ m, Array.find? (fun x => x.name == nm) Try.t97.methods = some m ∧ m.path = #[] ∧ m.func = some (f, true)) : Sem.run Try.prog (method 255 97 (.pointer (some ⟨b, 0, none⟩)) nm) W = .ok (f, .pointer (some ⟨b, 0, none⟩)) W := by
  obtain ⟨m, h1, h2, h3⟩ := hm
  rw [show (255 : Nat) = (Try.prog.types.size + 99) + 1 from rfl, method]
  go_simp
  have u1 := Try.underlying97
  simp only [follow, Sem.run_pure, Result.andThen_ok, receiverAt, Sem.run_bind, run_underlying u1, Place.get, strVal, wnc]
theorem m_push (W : World) (b : Nat) : Sem.run Try.prog (method 255 97 (.pointer (some ⟨b, 0, none⟩)) "Push") W = .ok (110, .pointer (some ⟨b, 0, none⟩)) W := meth_ptr _ _ W b ⟨_, rfl, rfl, rfl⟩
theorem m_pop (W : World) (b : Nat) : Sem.run Try.prog (method 255 97 (.pointer (some ⟨b, 0, none⟩)) "Pop") W = .ok (109, .pointer (some ⟨b, 0, none⟩)) W := meth_ptr _ _ W b ⟨_, rfl, rfl, rfl⟩
theorem e_push (args : Array Value) (w : World) : (callFunc 110 args).run Try.prog w = .ok (.enter 110 args) w := by rfl
theorem e_pop (args : Array Value) (w : World) : (callFunc 109 args).run Try.prog w = .ok (.enter 109 args) w := by rfl
def HuPost (w : World) (N qb : Nat) (u v : Value) (xs : List Tn) (x : Tn) (e : Ending) (w' : World) : Prop := e = .returned (.tuple #[]) ∧ ∃ v' ys, Qt N qb u v' ys w' ∧ ys.Perm (xs ++ [x]) ∧ Hp ys ys.length ∧ Kf (fpT qb v) w w' ∧ ∀ g, v'.ownBlock = some g → v.ownBlock = some g ∨ w.heap.size ≤ g
set_option maxRecDepth 100000 in
set_option maxHeartbeats 16000000 in
theorem hpush_any (N qb : Nat) (u v : Value) (xs : List Tn) (x : Tn) (w : World) (hN : N ≤ w.heap.size) (hl : xs.length < 1000000000) (h : Qt N qb u v xs w) (hp : Hp xs xs.length) : Calls Try.prog 50 #[.iface 97 (.pointer (some ⟨qb, 0, none⟩)), .iface 77 (.agg (tnL x).toArray)] w (HuPost w N qb u v xs x) := by
  have HC : Hid (Calls Try.prog 110 #[.pointer (some ⟨qb, 0, none⟩), .iface 77 (.agg (tnL x).toArray)] w (PuPost w N qb u v xs x)) := tpush_any N qb u v xs x w hN hl h
  have HUP : Hid (Up (xs ++ [x]) (xs.length + 1) xs.length) := hp.push x
  have HL : Hid (xs.length < 1000000000) := hl
  obtain ⟨X, hX⟩ : ∃ y, Value.iface 77 (.agg (tnL x).toArray) = y := ⟨_, rfl⟩
  rw [hX] at HC ⊢
  clear hN hl h hp hX
  go_enter Try.func50, Try.ntmps50
  go_wp2_with fail
  rw [m_push, Result.andThen_ok, e_push]
  refine HC.out.mono ?_
  rintro e w1 ⟨rfl, v1, hq1, hk1, hv1⟩
  obtain ⟨g, c, rfl, -⟩ := hq1.form (by simp)
  obtain ⟨n, hn⟩ : ∃ y, xs.length = y := ⟨_, rfl⟩
  rw [show (xs ++ [x]).length = n + 1 by rw [List.length_append, hn]; rfl] at hq1 hv1
  rw [hn] at HUP HL
  obtain ⟨m, hm⟩ : ∃ y, n + 1 = y := ⟨_, rfl⟩
  rw [hm] at hq1 hv1 HUP
  have HQ1 : Hid (Qt N qb u (.slice (some ⟨g, 0, none⟩) m c) (xs ++ [x]) w1) := hq1
  have HK1 : Hid (Kf (fpT qb v) w w1) := hk1
  have HV1 : Hid (∀ g', (Value.slice (some ⟨g, 0, none⟩) m c).ownBlock = some g' → v.ownBlock = some g' ∨ w.heap.size ≤ g') := hv1
  have hmn : (m : Int) - 1 = (n : Int) := by omega
  have hnb : (n : Int) < 1000000000 := by have := HL.out; omega
  have HM : Hid (n + 1 = m) := hm
  clear hq1 hk1 hv1 hm hn HC
  go_wp2_with fail
  rw [m_len w1 qb _ m c HQ1.out.tq.cell, Result.andThen_ok, e_len]
  refine (len_any _ m c w1).mono ?_
  rintro e w2 ⟨rfl, rfl⟩
  have HU : Hid (Calls Try.prog 65 #[.iface 97 (.pointer (some ⟨qb, 0, none⟩)), .int .i64 (n : Int)] w1 (HpPost w1 N qb g m c m (xs ++ [x]))) := up_any N qb g m c (xs ++ [x]) n w1 (by have := HL.out; have := HM.out; omega) HQ1.out.tq HUP.out
  go_wp2_with fail
  refine HU.out.mono ?_
  rintro e w3 ⟨rfl, ys, ht, hpm, hhp, hk⟩
  have HE : Hid (HuPost w N qb u v xs x (.returned (.tuple #[])) w3) := by
    refine ⟨rfl, _, ys, HQ1.out.of_tq ht hk, hpm, by rw [ht.own.lst.2]; exact hhp, HK1.out.trans (Kf.of_ko hk (F := fun b => b = g) (fun _ => rfl)) (fun b hb e => ?_), HV1.out⟩
    subst e
    rcases HV1.out b rfl with h | h
    · exact .inr h
    · omega
  clear ht hpm hhp hk HU
  go_wp2_with fail
  go_end0
  exact HE.out
def HoPost (w : World) (N qb : Nat) (u v : Value) (xs : List Tn) (e : Ending) (w' : World) : Prop := ∃ x ys v', e = .returned (.iface 77 (.agg (tnL x).toArray)) ∧ Qt N qb u v' ys w' ∧ xs.Perm (x :: ys) ∧ Hp ys ys.length ∧ (∀ y ∈ xs, x.d ≤ y.d) ∧ Kf (fpT qb v) w w' ∧ v'.ownBlock = v.ownBlock
theorem pop_plain {xs zs : List Tn} {n : Nat} {x : Tn} (hn : xs.length = n + 1) (hp : Hp xs (n + 1)) (hpm : zs.Perm (sw xs 0 n)) (hout : ∀ k, n ≤ k → zs[k]? = (sw xs 0 n)[k]?) (hx : zs[n]? = some x) : xs.Perm (x :: zs.take n) ∧ ∀ y ∈ xs, x.d ≤ y.d := by
  have hl : zs.length = n + 1 := by rw [hpm.length_eq, sw_len, hn]
  have e1 : zs = zs.take n ++ [x] := by
    have h5 : zs[n]'(by omega) = x := by
      rw [List.getElem?_eq_getElem (by omega)] at hx
      exact Option.some.inj hx
    rw [← h5]
    have h6 := List.take_append_drop n zs
    rw [List.drop_eq_getElem_cons (by omega), List.drop_eq_nil_of_le (by omega)] at h6
    exact h6.symm
  have e2 : x = xs[0]'(by omega) := by
    have h5 := hout n (Nat.le_refl _)
    rw [hx, List.getElem?_eq_getElem (by rw [sw_len]; omega), sw_at xs (by omega) (by omega) (by omega), if_pos rfl] at h5
    exact Option.some.inj h5
  refine ⟨?_, fun y hy => ?_⟩
  · have h5 : xs.Perm zs := (hpm.trans (sw_perm xs 0 n)).symm
    refine h5.trans ?_
    conv => lhs; rw [e1]
    exact List.perm_append_singleton _ _
  · obtain ⟨k, hk, rfl⟩ := List.getElem_of_mem hy
    have h5 := hp.least k (by omega)
    rw [dd_at (by omega), dd_at hk] at h5
    rw [e2]
    exact h5
set_option maxRecDepth 100000 in
set_option maxHeartbeats 16000000 in
theorem hpop_any (N qb : Nat) (u v : Value) (xs : List Tn) (w : World) (h0 : xs ≠ []) (hl : xs.length < 1000000000) (h : Qt N qb u v xs w) (hp : Hp xs xs.length) : Calls Try.prog 52 #[.iface 97 (.pointer (some ⟨qb, 0, none⟩))] w (HoPost w N qb u v xs) := by
  obtain ⟨g, c, rfl, -⟩ := h.form h0
  obtain ⟨n, hn⟩ : ∃ n, xs.length = n + 1 := ⟨xs.length - 1, by have := List.length_pos_iff.2 h0; omega⟩
  rw [hn] at h hp hl ⊢
  obtain ⟨m, hm⟩ : ∃ y, n + 1 = y := ⟨_, rfl⟩
  rw [hm] at h hp hl hn ⊢
  have HQ : Hid (Qt N qb u (.slice (some ⟨g, 0, none⟩) m c) xs w) := h
  have HP : Hid (Hp xs m) := hp
  have HN : Hid (xs.length = m ∧ n + 1 = m ∧ m < 1000000000) := ⟨hn, hm, hl⟩
  have hmn : (m : Int) - 1 = (n : Int) := by omega
  have hnb : (n : Int) < 1000000000 := by omega
  clear h hp hn hm hl h0
  go_enter Try.func52, Try.ntmps52
  go_wp2_with fail
  rw [m_len w qb _ m c HQ.out.tq.cell, Result.andThen_ok, e_len]
  refine (len_any _ m c w).mono ?_
  rintro e w2 ⟨rfl, rfl⟩
  have HSW : Hid (Calls Try.prog 108 #[.slice (some ⟨g, 0, none⟩) m c, .int .i64 0, .int .i64 (n : Int)] w (fun e w' => e = .returned (.tuple #[]) ∧ OwnL ET N w' (.slice (some ⟨g, 0, none⟩) m c) (sw xs 0 n) ∧ Ko w g w')) := swap_any N g m c xs 0 n w HQ.out.own (by have := HN.out; omega) (by have := HN.out; omega)
  go_wp2_with fail
  rw [m_swap w qb _ m c HQ.out.tq.cell, Result.andThen_ok, e_swap]
  refine HSW.out.mono ?_
  rintro e w3 ⟨rfl, ho3, hk3⟩
  have HT3 : Hid (TQ N qb g m c (sw xs 0 n) w3) := HQ.out.tq.nx ho3 hk3
  have HK3 : Hid (Ko w g w3) := hk3
  have HDN : Hid (Dn (sw xs 0 n) n 0) := Hp.pop (by rw [HN.out.2.1]; exact HP.out) (by rw [HN.out.2.1]; exact HN.out.1)
  clear ho3 hk3 HSW
  have HD : Hid (Calls Try.prog 66 #[.iface 97 (.pointer (some ⟨qb, 0, none⟩)), .int .i64 0, .int .i64 (n : Int)] w3 (DnPost w3 N qb g m c n (sw xs 0 n))) := down_any N qb g m c n (sw xs 0 n) w3 (by have := HN.out; omega) (by have := HN.out; omega) HT3.out HDN.out
  go_wp2_with fail
  refine HD.out.mono ?_
  rintro e w4 ⟨b, zs, rfl, ht4, hpm4, hhp4, hk4, hout4⟩
  have HQ4 : Hid (Qt N qb u (.slice (some ⟨g, 0, none⟩) m c) zs w4) := HQ.out.of_tq ht4 (HK3.out.trans hk4)
  have HK4 : Hid (Ko w g w4) := HK3.out.trans hk4
  have HPM : Hid (zs.Perm (sw xs 0 n)) := hpm4
  have HHP : Hid (Hp zs n) := hhp4
  have HO4 : Hid (∀ k, n ≤ k → zs[k]? = (sw xs 0 n)[k]?) := hout4
  clear ht4 hpm4 hhp4 hk4 hout4 HD HT3 HK3 HDN
  have HPO : Hid (Calls Try.prog 109 #[.pointer (some ⟨qb, 0, none⟩)] w4 (PoPost w4 N qb u g n c zs)) := tpop_any N qb u g n c zs w4 (by have := HN.out; omega) (by rw [HN.out.2.1]; exact HQ4.out)
  go_wp2_with fail
  rw [m_pop, Result.andThen_ok, e_pop]
  refine HPO.out.mono ?_
  rintro e w5 ⟨x, rfl, hx, hq5, hk5⟩
  have HE : Hid (HoPost w N qb u (.slice (some ⟨g, 0, none⟩) m c) xs (.returned (.iface 77 (.agg (tnL x).toArray))) w5) := by
    obtain ⟨q1, q2⟩ := pop_plain (by rw [HN.out.2.1]; exact HN.out.1) (by rw [HN.out.2.1]; exact HP.out) HPM.out HO4.out hx
    refine ⟨x, zs.take n, _, rfl, hq5, q1, by rw [hq5.own.lst.2]; exact HHP.out.take, q2, (Kf.of_ko HK4.out (F := fpT qb (.slice (some ⟨g, 0, none⟩) m c)) (fun _ => .inr rfl)).trans hk5 (fun b _ e => .inl e), rfl⟩
  obtain ⟨X, hX⟩ : ∃ y, Value.iface 77 (.agg (tnL x).toArray) = y := ⟨_, rfl⟩
  rw [hX] at HE ⊢
  clear hx hq5 hk5 HPO hX
  go_wp2_with fail
  go_ret
  exact HE.out
end Go.Proofs.Ythhdpfgepjmgkaa.Dj
