/- The damper: NewDamper; prefixesSame of the same. -/
import Derived.Test.YtjfiahendnlcjaaDaG
namespace Go.Proofs.Ytjfiahendnlcjaa.Da
open Go.ChangeShapes Go.WideShapes Go.ChangeAt Go.RowKit Go.Joins Go.Deep Go.Proofs.Ytjfiahendnlcjaa.Ge Go.Proofs.Ytjfiahendnlcjaa.PM Go.Proofs.Ytjfiahendnlcjaa.Ask
set_option linter.unusedVariables false
set_option linter.unusedSimpArgs false

def CgK : Sk := ⟨23, 6, _, Try.underlying23, rfl, by kernel_rfl⟩
def cgL (a b c d e f : Int) : List Value := [.int .i64 a, .int .i64 b, .int .i64 c, .int .i64 d, .int .i64 e, .int .i64 f]
/-- a config that may be (half, limit, reuse, most, down, change) -/
def mayD (a b c d e f : Int) : Prop := (1 ≤ a ∧ a ≤ 10000) ∧ 1 ≤ c ∧ c < b ∧ b ≤ d ∧ d ≤ 1000000 ∧ (0 ≤ e ∧ e ≤ 1000000) ∧ (0 ≤ f ∧ f ≤ 1000000)
theorem mkmap_run {κ β : Type} [DecidableEq κ] {o : Oper} {ρ : Operand → Value} {W : World} (M : Mk κ β) (ho : o.op = .makeMap M.t none) : (execOp ρ o).run Try.prog W = .ok (.value (.map (some W.heap.size))) (W.alloc (.map #[] 0)) := by
  unfold execOp
  rw [ho]
  simp [Instr.makeMap, go_sem]
theorem list_mkmap {κ β : Type} [DecidableEq κ] {ops : Array Oper} {rest : List Oper} {o : Oper} {ac : Act} {Q : Exit → Act → World → Prop} {W : World} (M : Mk κ β) (hgd : o.guard = none) (ho : o.op = .makeMap M.t none)
    (k : ∀ b W', Hid (W.heap.size = b) → Hid (MB M b [] 0 W') → Hid (Below W.heap.size W W') → wpList Try.prog ops Q rest (ac.put o.dst (.map (some b))) W') : wpList Try.prog ops Q (o :: rest) ac W := by
  refine wpList_plain hgd fun K hK => ?_
  unfold Oper.wp
  rw [mkmap_run M ho]
  exact hK _ _ (k _ _ rfl (World.alloc_heap_new W _) ((Below.refl _ W).alloc (Nat.le_refl _) _))
set_option maxRecDepth 100000 in
set_option maxHeartbeats 8000000 in
theorem new_no (ca cb cc cd ce cf : Int) (w : World) (hm : ¬ mayD ca cb cc cd ce cf) :
    Calls Try.prog 6 #[.agg (cgL ca cb cc cd ce cf).toArray] w fun e w' => e = .returned (.tuple #[.pointer none, .int .i64 2]) ∧ Below w.heap.size w w' := by
  have HM : Hid (¬ mayD ca cb cc cd ce cf) := hm
  clear hm
  go_enter Try.func6, Try.ntmps6
  go_wp2_with (refine list_sbox CgK rfl _ rfl (cs := cgL ca cb cc cd ce cf) rfl ?_)
  intro w1 hb1 hbl1 hz1
  obtain ⟨bc, hbc⟩ : ∃ y, w.heap.size = y := ⟨_, rfl⟩
  have HX1 : Hid (SB CgK bc (cgL ca cb cc cd ce cf) w1) := by rw [← hbc]; exact hb1.out
  have HB1 : Hid (Below w.heap.size w w1) := hbl1.out
  rw [hbc]
  clear hb1 hbl1 hz1 hbc
  have c0 : w1.cell? ⟨bc, 0, none⟩ = some (.int .i64 ca) := HX1.out.cell 0
  have c1 : w1.cell? ⟨bc, 1, none⟩ = some (.int .i64 cb) := HX1.out.cell 1
  have c2 : w1.cell? ⟨bc, 2, none⟩ = some (.int .i64 cc) := HX1.out.cell 2
  have c3 : w1.cell? ⟨bc, 3, none⟩ = some (.int .i64 cd) := HX1.out.cell 3
  have c4 : w1.cell? ⟨bc, 4, none⟩ = some (.int .i64 ce) := HX1.out.cell 4
  have c5 : w1.cell? ⟨bc, 5, none⟩ = some (.int .i64 cf) := HX1.out.cell 5
  by_cases h1 : 1 ≤ ca ∧ ca ≤ 10000
  case neg =>
    have h1h : Hid (¬ (1 ≤ ca ∧ ca ≤ 10000)) := h1
    clear h1
    go_wp2_with fail
    refine (within_any ca 1 10000 false (decide_eq_false h1h.out) w1).mono ?_
    rintro e w' ⟨rfl, hw'⟩
    rw [hw']
    clear hw' w'
    go_wp2_with fail
    go_ret2
    exact ⟨rfl, HB1.out⟩
  have h1h : Hid (1 ≤ ca ∧ ca ≤ 10000) := h1
  clear h1
  go_wp2_with fail
  refine (within_any ca 1 10000 true (decide_eq_true h1h.out) w1).mono ?_
  rintro e w' ⟨rfl, hw'⟩
  rw [hw']
  clear hw' w'
  by_cases h2 : 1 ≤ cc
  case neg =>
    go_wp2_with fail
    go_ret2
    exact ⟨rfl, HB1.out⟩
  by_cases h3 : cc < cb
  case neg =>
    go_wp2_with fail
    go_ret2
    exact ⟨rfl, HB1.out⟩
  by_cases h4 : cb ≤ cd
  case neg =>
    go_wp2_with fail
    go_ret2
    exact ⟨rfl, HB1.out⟩
  by_cases h5 : cd ≤ 1000000
  case neg =>
    go_wp2_with fail
    go_ret2
    exact ⟨rfl, HB1.out⟩
  by_cases h6 : 0 ≤ ce ∧ ce ≤ 1000000
  case neg =>
    have h6h : Hid (¬ (0 ≤ ce ∧ ce ≤ 1000000)) := h6
    clear h6
    go_wp2_with fail
    refine (within_any ce 0 1000000 false (decide_eq_false h6h.out) w1).mono ?_
    rintro e w' ⟨rfl, hw'⟩
    rw [hw']
    clear hw' w'
    go_wp2_with fail
    go_ret2
    exact ⟨rfl, HB1.out⟩
  have h6h : Hid (0 ≤ ce ∧ ce ≤ 1000000) := h6
  clear h6
  go_wp2_with fail
  refine (within_any ce 0 1000000 true (decide_eq_true h6h.out) w1).mono ?_
  rintro e w' ⟨rfl, hw'⟩
  rw [hw']
  clear hw' w'
  have h7h : Hid (¬ (0 ≤ cf ∧ cf ≤ 1000000)) := fun c => HM.out ⟨h1h.out, h2, h3, h4, h5, h6h.out, c⟩
  go_wp2_with fail
  refine (within_any cf 0 1000000 false (decide_eq_false h7h.out) w1).mono ?_
  rintro e w' ⟨rfl, hw'⟩
  rw [hw']
  clear hw' w'
  go_wp2_with fail
  go_ret2
  exact ⟨rfl, HB1.out⟩
def dcOf (a b c d e f : Int) : Dc := ⟨a.toNat, b.toNat, c.toNat, d.toNat, e.toNat, f.toNat, 0⟩
set_option maxRecDepth 100000 in
set_option maxHeartbeats 8000000 in
theorem new_any (ca cb cc cd ce cf : Int) (w : World) (hm : mayD ca cb cc cd ce cf) :
    Calls Try.prog 6 #[.agg (cgL ca cb cc cd ce cf).toArray] w fun e w' => ∃ d : Dw, e = .returned (.tuple #[.pointer (some ⟨d.b, 0, none⟩), .int .i64 0]) ∧ Dp w' d (dcOf ca cb cc cd ce cf) [] 0 [] 0 ∧ Below w.heap.size w w' ∧ ∀ g, fpD d g → w.heap.size ≤ g := by
  obtain ⟨h1, h2, h3, h4, h5, h6, h7⟩ := hm
  have h1h : Hid (1 ≤ ca ∧ ca ≤ 10000) := h1
  have h6h : Hid (0 ≤ ce ∧ ce ≤ 1000000) := h6
  have h7h : Hid (0 ≤ cf ∧ cf ≤ 1000000) := h7
  clear h1 h6 h7
  go_enter Try.func6, Try.ntmps6
  go_wp2_with (refine list_sbox CgK rfl _ rfl (cs := cgL ca cb cc cd ce cf) rfl ?_)
  intro w1 hb1 hbl1 hz1
  obtain ⟨bc, hbc⟩ : ∃ y, w.heap.size = y := ⟨_, rfl⟩
  have HX1 : Hid (SB CgK bc (cgL ca cb cc cd ce cf) w1) := by rw [← hbc]; exact hb1.out
  have HB1 : Hid (Below w.heap.size w w1) := hbl1.out
  rw [hbc]
  clear hb1 hbl1 hz1 hbc
  have c0 : w1.cell? ⟨bc, 0, none⟩ = some (.int .i64 ca) := HX1.out.cell 0
  have c1 : w1.cell? ⟨bc, 1, none⟩ = some (.int .i64 cb) := HX1.out.cell 1
  have c2 : w1.cell? ⟨bc, 2, none⟩ = some (.int .i64 cc) := HX1.out.cell 2
  have c3 : w1.cell? ⟨bc, 3, none⟩ = some (.int .i64 cd) := HX1.out.cell 3
  have c4 : w1.cell? ⟨bc, 4, none⟩ = some (.int .i64 ce) := HX1.out.cell 4
  have c5 : w1.cell? ⟨bc, 5, none⟩ = some (.int .i64 cf) := HX1.out.cell 5
  go_wp2_with fail
  refine (within_any ca 1 10000 true (decide_eq_true h1h.out) w1).mono ?_
  rintro e w' ⟨rfl, hw'⟩
  rw [hw']
  clear hw' w'
  go_wp2_with fail
  refine (within_any ce 0 1000000 true (decide_eq_true h6h.out) w1).mono ?_
  rintro e w' ⟨rfl, hw'⟩
  rw [hw']
  clear hw' w'
  go_wp2_with fail
  refine (within_any cf 0 1000000 true (decide_eq_true h7h.out) w1).mono ?_
  rintro e w' ⟨rfl, hw'⟩
  rw [hw']
  clear hw' w'
  go_wp2_with (first | (refine list_sload CgK rfl _ rfl (b := bc) (cs := [.int .i64 ca, .int .i64 cb, .int .i64 cc, .int .i64 cd, .int .i64 ce, .int .i64 cf]) rfl HX1.out rfl ?_) | (refine list_mkmap MPn rfl rfl ?_))
  intro bp w2 hbp hmp hb2
  have HP2 : Hid (MB MPn bp [] 0 w2) := hmp.out
  have HB2 : Hid (Below w.heap.size w w2 ∧ w.heap.size ≤ bp) := by have := hbp.out; have := HB1.out.size; exact ⟨HB1.out.trans (hb2.out.mono HB1.out.size), by omega⟩
  clear hbp hmp hb2
  go_wp2_with (refine list_mkmap MUn rfl rfl ?_)
  intro bu w3 hbu hmu hb3
  have HP3 : Hid (MB MPn bp [] 0 w3 ∧ MB MUn bu [] 0 w3 ∧ bp ≠ bu) := ⟨HP2.out.blk (hb3.out.block _ HP2.out.lt), hmu.out, by have := hbu.out; have := HP2.out.lt; omega⟩
  have HB3 : Hid (Below w.heap.size w w3 ∧ w.heap.size ≤ bu) := by have := hbu.out; have := HB2.out.1.size; exact ⟨HB2.out.1.trans (hb3.out.mono HB2.out.1.size), by omega⟩
  clear hbu hmu hb3 HP2
  obtain ⟨a, rfl⟩ : ∃ y : Nat, ca = (y : Int) := ⟨ca.toNat, by have := h1h.out; omega⟩
  obtain ⟨c, rfl⟩ : ∃ y : Nat, cc = (y : Int) := ⟨cc.toNat, by omega⟩
  obtain ⟨b, rfl⟩ : ∃ y : Nat, cb = (y : Int) := ⟨cb.toNat, by omega⟩
  obtain ⟨dd, rfl⟩ : ∃ y : Nat, cd = (y : Int) := ⟨cd.toNat, by omega⟩
  obtain ⟨e, rfl⟩ : ∃ y : Nat, ce = (y : Int) := ⟨ce.toNat, by have := h6h.out; omega⟩
  obtain ⟨f, rfl⟩ : ∃ y : Nat, cf = (y : Int) := ⟨cf.toNat, by have := h7h.out; omega⟩
  have HDC : Hid (dcOf a b c dd e f = ⟨a, b, c, dd, e, f, 0⟩) := by show _ = _; unfold dcOf; simp only [Int.toNat_natCast]
  go_wp2_with (refine list_sbox DmK rfl _ rfl (cs := dmL ⟨a, b, c, dd, e, f, 0⟩ bp bu) rfl ?_)
  intro w4 hb4 hbl4 hz4
  have HF : Hid (∃ d : Dw, (Ending.returned (.tuple #[.pointer (some ⟨w3.heap.size, 0, none⟩), .int .i64 0])) = .returned (.tuple #[.pointer (some ⟨d.b, 0, none⟩), .int .i64 0]) ∧ Dp w4 d (dcOf a b c dd e f) [] 0 [] 0 ∧ Below w.heap.size w w4 ∧ ∀ g, fpD d g → w.heap.size ≤ g) := by
    have g1 := h1h.out; have g6 := h6h.out; have g7 := h7h.out
    have l1 := HP3.out.1.lt; have l2 := HP3.out.2.1.lt
    refine ⟨⟨w3.heap.size, bp, bu⟩, rfl, ?_, HB3.out.1.trans (hbl4.out.mono HB3.out.1.size), fun g hg => ?_⟩
    · rw [HDC.out]
      exact ⟨hb4.out, HP3.out.1.blk (hbl4.out.block _ l1), HP3.out.2.1.blk (hbl4.out.block _ l2), ⟨List.Pairwise.nil, List.Pairwise.nil, fun x hx => by cases hx⟩, ⟨List.Pairwise.nil, List.Pairwise.nil, fun x hx => by cases hx⟩, ⟨by show w3.heap.size ≠ bp; omega, by show w3.heap.size ≠ bu; omega, HP3.out.2.2⟩, ⟨⟨by show 1 ≤ a; omega, by show a ≤ _; omega⟩, ⟨by show 1 ≤ c; omega, by show c < b; omega⟩, ⟨by show b ≤ dd; omega, by show dd ≤ _; omega⟩, by show e ≤ _; omega, by show f ≤ _; omega, Nat.zero_le _⟩, (fun x hx => by cases hx), fun x hx => by cases hx⟩
    · have := HB3.out.1.size; have := HB2.out.2; have := HB3.out.2
      rcases hg with e | e | e
      · rw [e]; show w.heap.size ≤ w3.heap.size; omega
      · rw [e]; show w.heap.size ≤ bp; omega
      · rw [e]; show w.heap.size ≤ bu; omega
  clear hb4 hbl4 hz4
  go_wp2_with fail
  go_ret2
  exact HF.out
theorem lst2 {w : World} {a : Option Addr} {ps : List (Int × Int)} (h : Lst E2 w a ps) (i : Nat) (hi : i < ps.length) : ∃ b o, a = some ⟨b, o, none⟩ ∧ b < w.heap.size ∧ w.cell? ⟨b, o + i * 2, none⟩ = some (.int .u32 ps[i].1) ∧ w.cell? ⟨b, o + i * 2 + 1, none⟩ = some (.int .i64 ps[i].2) := by
  obtain ⟨b, o, e, hl, hc⟩ := h.cells i hi
  exact ⟨b, o, e, hl, hc 0 (by decide), hc 1 (by decide)⟩
set_option maxRecDepth 100000 in
set_option maxHeartbeats 4000000 in
theorem dn_bel (w : World) (q : Nat) : Below w.heap.size w (w.drewN q) := ⟨rfl, rfl, rfl, Nat.le_refl _, fun _ _ => rfl⟩
set_option maxRecDepth 100000 in
set_option maxHeartbeats 4000000 in
theorem pfxs_same (a1 : Option Addr) (c1 : Nat) (a2 : Option Addr) (c2 : Nat) (xs : List (Int × Int)) (n : Nat) (hn : xs.length = n) (w : World) (h1 : Lst E2 w a1 xs) (h2 : Lst E2 w a2 xs) :
    Calls Try.prog 16 #[.slice a1 n c1, .slice a2 n c2] w fun e w' => e = .returned (.bool true) ∧ Below w.heap.size w w' := by
  have H1 : Hid (Lst E2 w a1 xs) := h1
  have H2 : Hid (Lst E2 w a2 xs) := h2
  have HN : Hid (xs.length = n) := hn
  have hsm := h1.small
  rw [hn] at hsm
  clear h1 h2 hn
  go_enter Try.func16, Try.ntmps16
  go_wp2_with fail
  go_loopw [13] (fun iv wr => ∃ i : Nat, i ≤ n ∧ iv = .int .i64 (i : Int) ∧ Below w.heap.size w wr) (fun i _ => n - (intOf i).toNat)
  case atStart => exact ⟨0, by omega, rfl, Below.refl _ _⟩
  case round =>
    obtain ⟨i, hi, rfl, hb⟩ := hrel
    have HB : Hid (Below w.heap.size w wr) := hb
    clear hb
    by_cases hlt : i < n
    · have hil : i < xs.length := by rw [HN.out]; exact hlt
      obtain ⟨b, o, rfl, hbl, c0, d0⟩ := lst2 (H1.out.bel HB.out) i hil
      obtain ⟨b', o', rfl, hbl', c0', d0'⟩ := lst2 (H2.out.bel HB.out) i hil
      obtain ⟨⟨x, y⟩, hx⟩ : ∃ x, xs[i] = x := ⟨_, rfl⟩
      rw [hx] at c0 c0' d0 d0'
      dsimp only at c0 c0' d0 d0'
      have hii : (i : Int) < (n : Int) := by omega
      have ii0 : (0 : Int) ≤ i := by omega
      clear hx
      go_wp2_with fail
      go_quiet (fail)
      have HB2 : Hid (Below w.heap.size w (wr.drewN nq)) := HB.out.trans ((dn_bel wr nq).mono HB.out.size)
      go_wp2_with fail
      exact ⟨⟨i + 1, by omega, by simp, HB2.out⟩, by simp [intOf]; omega⟩
    · obtain rfl : i = n := by omega
      go_wp2_with fail
      go_ret
      exact ⟨rfl, HB.out⟩
end Go.Proofs.Ytjfiahendnlcjaa.Da
