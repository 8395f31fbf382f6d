/- The damper: dampWorks. -/
import Derived.Test.YtjfiahendnlcjaaDaH
namespace Go.Proofs.Ytjfiahendnlcjaa.Da
open Go.ChangeShapes Go.WideShapes Go.ChangeAt Go.RowKit Go.Joins Go.Deep Go.Proofs.Ytjfiahendnlcjaa.Ge Go.Proofs.Ytjfiahendnlcjaa.PM Go.Proofs.Ytjfiahendnlcjaa.Ask
set_option linter.unusedVariables false
set_option linter.unusedSimpArgs false

theorem Kd.below {w w1 w2 : World} {d : Dw} (h : Kd w1 w2 d) (hb : Below w.heap.size w w1) (hf : ∀ g, fpD d g → w.heap.size ≤ g) : Below w.heap.size w w2 := by
  have hs := hb.trans (⟨h.str.os, h.str.tape, h.str.output, h.str.size, fun g hg => h.blk g (Nat.lt_of_lt_of_le hg hb.size) (fun c => by have := hf g c; omega)⟩ : Below w.heap.size w1 w2)
  exact hs
def c0 : Dc := ⟨10, 2000, 750, 6000, 1000, 500, 0⟩
theorem c0_chk : chkP c0 [] (0, 0) 1 0 = 0 := by decide
theorem c0_pen : penP (clkD c0 0) (mget (flE c0 [] 0 (0, 0) 0 (valP c0 (mget []) (0, 0) 1 0) (hldP c0 (mget []) (0, 0) 1 0))) (0, 0) 0 = 1000 := by decide
set_option maxRecDepth 100000 in
set_option maxHeartbeats 8000000 in
theorem works_any (w : World) : Calls Try.prog 17 #[] w fun e w' => e = .returned (.bool true) ∧ Below w.heap.size w w' := by
  have HNW := new_any 10 2000 750 6000 1000 500 w (by unfold mayD; decide)
  go_enter Try.func17, Try.ntmps17
  go_wp2_with fail
  refine HNW.mono ?_
  rintro e w1 ⟨d, rfl, hd, hb1, hf⟩
  have HD : Hid (Dp w1 d c0 [] 0 [] 0) := hd
  have HB1 : Hid (Below w.heap.size w w1) := hb1
  have HF : Hid (∀ g, fpD d g → w.heap.size ≤ g) := hf
  have HFL := flap_any d c0 [] 0 [] 0 (0, 0) 1 0 w1 hd ⟨by decide, by decide⟩ (Nat.zero_le _)
  obtain ⟨b, hb⟩ : ∃ y, d.b = y := ⟨_, rfl⟩
  rw [hb] at HFL ⊢
  have HBE : Hid (d.b = b) := hb
  clear hd hb1 hf HNW hb
  go_wp2_with fail
  refine HFL.mono ?_
  rintro e w2 hp
  obtain ⟨rfl, hk, -, hok⟩ := hp
  rw [c0_chk]
  have HD2 := hok c0_chk
  have HB2 : Hid (Below w.heap.size w w2) := hk.below HB1.out HF.out
  have HPN := penalty_any d _ _ _ _ _ (0, 0) 0 0 w2 HD2 (by decide) rfl
  rw [HBE.out] at HPN
  rw [show (0 : Int).toNat = 0 from rfl] at HPN
  rw [c0_pen] at HPN
  clear hk hok HFL HD2
  go_wp2_with fail
  refine HPN.mono ?_
  rintro e w3 ⟨rfl, hb3⟩
  have HB3 : Hid (Below w.heap.size w w3) := HB2.out.trans (hb3.mono HB2.out.size)
  clear hb3 HPN
  go_wp2_with fail
  go_ret
  exact ⟨rfl, HB3.out⟩
end Go.Proofs.Ytjfiahendnlcjaa.Da
