/- Lists of prefixes: is one among them? -/
import Derived.Test.YtjfiahendnlcjaaDaF
namespace Go.Proofs.Ytjfiahendnlcjaa.Da
open Go.ChangeShapes Go.WideShapes Go.ChangeAt Go.RowKit Go.Joins Go.Deep Go.Proofs.Ytjfiahendnlcjaa.PM Go.Proofs.Ytjfiahendnlcjaa.Ask Go.Proofs.Ytjfiahendnlcjaa.Ge
set_option linter.unusedVariables false
set_option linter.unusedSimpArgs false
def E2 : El (Int × Int) := ⟨35, 43, 2, 16, .agg #[.int .u32 0, .int .i64 0], fun p => [.int .u32 p.1, .int .i64 p.2], by decide, by decide, fun _ => rfl, fun x u hu => by simp at hu; rcases hu with rfl | rfl <;> rfl, Try.underlying43, by kernel_rfl, rfl⟩
theorem sat_run {o : Oper} {ρ : Operand → Value} {W : World} (T : Sk) (x : Operand) (ho : o.op = .load T.t x) {b k : Nat} {cs : List Value} (hx : ρ x = .pointer (some ⟨b, k, none⟩)) (h : ∀ j, j < T.k → W.cell? ⟨b, k + j, none⟩ = cs[j]?) (hl : cs.length = T.k) : (execOp ρ o).run Try.prog W = .ok (.value (.agg cs.toArray)) W := by
  unfold execOp
  have hr : W.rangeAt b k cs := fun j v hv => by
    have hj : j < T.k := by rw [← hl]; exact (List.getElem?_eq_some_iff.1 hv).1
    rw [h j hj]; exact hv
  simp only [ho, hx, Instr.loadAt, Instr.sureAddr, Sem.run_bind, Sem.run_pure, Result.andThen_ok, run_loadVar_mid W b k T.t cs T.d hr T.hu T.hd (by rw [T.hi, hl])]
theorem list_sat {ops : Array Oper} {rest : List Oper} {o : Oper} {ac : Act} {Q : Exit → Act → World → Prop} {W : World} (T : Sk) (hgd : o.guard = none) (x : Operand) (ho : o.op = .load T.t x) {b k : Nat} {cs : List Value} (hx : ac.eval x = .pointer (some ⟨b, k, none⟩)) (h : ∀ j, j < T.k → W.cell? ⟨b, k + j, none⟩ = cs[j]?) (hl : cs.length = T.k)
    (kk : wpList Try.prog ops Q rest (ac.put o.dst (.agg cs.toArray)) W) : wpList Try.prog ops Q (o :: rest) ac W := by
  refine wpList_plain hgd fun K hK => ?_
  unfold Oper.wp
  rw [sat_run T x ho hx h hl]
  exact hK _ _ kk
theorem take_ne {xs : List (Int × Int)} {p : Int × Int} {i : Nat} (hi : i < xs.length) (h : p ∉ xs.take i) (hx : xs[i] ≠ p) : p ∉ xs.take (i + 1) := by
  rw [List.take_succ_eq_append_getElem hi]
  intro hm
  rcases List.mem_append.1 hm with hm | hm
  · exact h hm
  · exact hx (List.mem_singleton.1 hm).symm
def PinI (w : World) (xs : List (Int × Int)) (p : Int × Int) (n b : Nat) (iv : Value) (W : World) : Prop := ∃ i : Nat, i ≤ n ∧ iv = .int .i64 (i : Int) ∧ Below w.heap.size w W ∧ SB PxK b (pxL p) W ∧ p ∉ xs.take i
set_option maxRecDepth 100000 in
set_option maxHeartbeats 4000000 in
theorem pin_any (va : Option Addr) (n cap : Nat) (xs : List (Int × Int)) (hn : xs.length = n) (p : Pf) (r : Bool) (hr : decide (p ∈ xs) = r) (w : World) (h : Lst E2 w va xs) :
    Calls Try.prog 18 #[.slice va n cap, pfV p] w fun e w' => e = .returned (.bool r) ∧ Below w.heap.size w w' := by
  have H : Hid (Lst E2 w va xs) := h
  have HN : Hid (xs.length = n) := hn
  have HR : Hid (decide (p ∈ xs) = r) := hr
  have hsm := h.small
  rw [hn] at hsm
  clear h hn hr
  go_enter Try.func18, Try.ntmps18
  go_wp2_with (refine list_sbox PxK rfl _ rfl (cs := pxL p) rfl ?_)
  intro w1 hx1 hb1 hz
  obtain ⟨b4, hb4⟩ : ∃ y, w.heap.size = y := ⟨_, rfl⟩
  have HX : Hid (SB PxK b4 (pxL p) w1) := by rw [← hb4]; exact hx1.out
  have HB1 : Hid (Below w.heap.size w w1) := hb1.out
  have HB4 : Hid (w.heap.size = b4) := hb4
  rw [hb4]
  clear hx1 hb1 hz hb4
  go_wp2_with fail
  go_loopw [9] (fun iv wr => PinI w xs p n b4 iv wr) (fun i _ => n - (intOf i).toNat)
  case atStart => exact ⟨0, by omega, rfl, HB1.out, HX.out, by simp⟩
  case round =>
    obtain ⟨i, hi, rfl, hb, hx, hni⟩ := hrel
    have HB : Hid (Below w.heap.size w wr) := hb
    have HXX : Hid (SB PxK b4 (pxL p) wr) := hx
    have HNI : Hid (p ∉ xs.take i) := hni
    clear hb hx hni
    by_cases hlt : i < n
    · have hil : i < xs.length := by rw [HN.out]; exact hlt
      obtain ⟨b, o, rfl, hbl, hc⟩ := (H.out.bel HB.out).cells i hil
      obtain ⟨x, hx⟩ : ∃ x, xs[i] = x := ⟨_, rfl⟩
      have HXI : Hid (xs[i] = x) := hx
      rw [hx] at hc
      have HC : Hid (∀ j, j < PxK.k → wr.cell? ⟨b, o + i * 2 + j, none⟩ = (pxL x)[j]?) := hc
      have hii : (i : Int) < (n : Int) := by omega
      have ii0 : (0 : Int) ≤ i := by omega
      clear hx hc hbl
      go_wp2_with (first | (refine list_sat PxK rfl _ rfl (b := b) (k := o + i * 2) (cs := pxL x) rfl HC.out rfl ?_) | (refine list_pxnew rfl rfl ?_))
      intro b6 w5 hb6 hx6 hbl5
      have HX6 : Hid (SB PxK b6 (pxL (0, 0)) w5) := hx6.out
      have HB5 : Hid (Below w.heap.size w w5) := HB.out.trans (hbl5.out.mono HB.out.size)
      have HXP : Hid (SB PxK b4 (pxL p) w5) := HXX.out.blk (hbl5.out.block _ HXX.out.lt)
      have HN6 : Hid (w.heap.size ≤ b6 ∧ b4 ≠ b6) := ⟨by have := hb6.out; have := HB.out.size; omega, fun e => by have := hb6.out; have := HXX.out.lt; omega⟩
      clear hb6 hx6 hbl5 HC HXX HB
      go_wp2_with (refine list_sstore PxK rfl _ _ rfl (b := b6) (cs := pxL (0, 0)) (cs' := pxL x) rfl rfl HX6.out rfl rfl rfl ?_)
      intro w6 hx6 hk6
      have HX7 : Hid (SB PxK b6 (pxL x) w6) := hx6.out
      have HB6 : Hid (Below w.heap.size w w6) := HB5.out.trans (hk6.out.below HN6.out.1)
      have HXQ : Hid (SB PxK b4 (pxL p) w6) := HXP.out.blk (hk6.out.block _ HN6.out.2)
      clear hx6 hk6 HX6 HB5 HXP
      have HR2 : Hid (decide ((p.1, p.2) ∈ xs) = r) := HR.out
      obtain ⟨x1, x2⟩ := x
      obtain ⟨p1, p2⟩ := p
      by_cases hxp : x1 = p1 ∧ x2 = p2
      · obtain ⟨rfl, rfl⟩ := hxp
        go_wp2_with (first | (refine list_sload PxK rfl _ rfl (b := b6) (cs := [.int .u32 x1, .int .i64 x2]) rfl HX7.out rfl ?_) | (refine list_sload PxK rfl _ rfl (b := b4) (cs := [.int .u32 x1, .int .i64 x2]) rfl HXQ.out rfl ?_))
        go_ret
        exact ⟨by rw [← HR.out, decide_eq_true (HXI.out ▸ List.getElem_mem hil)]; rfl, HB6.out⟩
      · have HNE : Hid ((x1, x2) ≠ (p1, p2)) := fun e => hxp (by cases e; exact ⟨rfl, rfl⟩)
        have hq : (x1 == p1 && x2 == p2) = false := by
          rw [Bool.and_eq_false_iff]
          by_cases h1 : x1 = p1
          · exact .inr (by simpa using fun h2 => hxp ⟨h1, h2⟩)
          · exact .inl (by simpa using h1)
        go_wp2_with (first | (refine list_sload PxK rfl _ rfl (b := b6) (cs := [.int .u32 x1, .int .i64 x2]) rfl HX7.out rfl ?_) | (refine list_sload PxK rfl _ rfl (b := b4) (cs := [.int .u32 p1, .int .i64 p2]) rfl HXQ.out rfl ?_))
        all_goals exact ⟨⟨i + 1, by omega, by simp, HB6.out, HXQ.out, take_ne hil HNI.out (by rw [HXI.out]; exact HNE.out)⟩, by simp [intOf]; omega⟩
    · obtain rfl : n = i := by omega
      have HE : Hid (r = false) := by
        rw [← HR.out]
        refine decide_eq_false (fun hm => HNI.out ?_)
        rw [← HN.out, List.take_length]
        exact hm
      go_wp2_with fail
      go_ret
      exact ⟨by rw [HE.out]; rfl, HB.out⟩
end Go.Proofs.Ytjfiahendnlcjaa.Da
