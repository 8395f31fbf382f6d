/- The heap mended upwards. -/
import Derived.Test.YthhdpfgepjmgkaaDjG
namespace Go.Proofs.Ythhdpfgepjmgkaa.Dj
open Go.ChangeShapes Go.WideShapes Go.ChangeAt Go.RowKit Go.Joins Go.Deep Go.Proofs.Ythhdpfgepjmgkaa.Ge
set_option linter.unusedVariables false
set_option linter.unusedSimpArgs false

/-- the turns of a queue at qb, in block g -/
structure TQ (N qb g n c : Nat) (xs : List Tn) (W : World) : Prop where
  cell : W.cell? ⟨qb, 0, none⟩ = some (.slice (some ⟨g, 0, none⟩) n c)
  own : OwnL ET N W (.slice (some ⟨g, 0, none⟩) n c) xs
  ne : qb ≠ g
theorem TQ.nx {N qb g n c : Nat} {xs ys : List Tn} {W W' : World} (h : TQ N qb g n c xs W) (ho : OwnL ET N W' (.slice (some ⟨g, 0, none⟩) n c) ys) (hk : Ko W g W') : TQ N qb g n c ys W' := ⟨(World.cell?_of_block (w := W) (hk.block qb h.ne)).trans h.cell, ho, h.ne⟩
theorem TQ.bel {N qb g n c : Nat} {xs : List Tn} {W W' : World} (h : TQ N qb g n c xs W) (hb : Below W.heap.size W W') : TQ N qb g n c xs W' := ⟨(World.cell?_of_block (w := W) (hb.block qb (World.block_lt_of_cell? W _ h.cell))).trans h.cell, h.own.bel hb, h.ne⟩
theorem m_less (W : World) (b : Nat) (va : Option Addr) (n c : Nat) (h : W.cell? ⟨b, 0, none⟩ = some (.slice va n c)) : Sem.run Try.prog (method 255 97 (.pointer (some ⟨b, 0, none⟩)) "Less") W = .ok (107, .slice va n c) W := meth_any _ _ W b va n c ⟨_, rfl, rfl, rfl⟩ h
theorem m_swap (W : World) (b : Nat) (va : Option Addr) (n c : Nat) (h : W.cell? ⟨b, 0, none⟩ = some (.slice va n c)) : Sem.run Try.prog (method 255 97 (.pointer (some ⟨b, 0, none⟩)) "Swap") W = .ok (108, .slice va n c) W := meth_any _ _ W b va n c ⟨_, rfl, rfl, rfl⟩ h
theorem m_len (W : World) (b : Nat) (va : Option Addr) (n c : Nat) (h : W.cell? ⟨b, 0, none⟩ = some (.slice va n c)) : Sem.run Try.prog (method 255 97 (.pointer (some ⟨b, 0, none⟩)) "Len") W = .ok (106, .slice va n c) W := meth_any _ _ W b va n c ⟨_, rfl, rfl, rfl⟩ h
theorem e_less (args : Array Value) (w : World) : (callFunc 107 args).run Try.prog w = .ok (.enter 107 args) w := by rfl
theorem e_swap (args : Array Value) (w : World) : (callFunc 108 args).run Try.prog w = .ok (.enter 108 args) w := by rfl
theorem e_len (args : Array Value) (w : World) : (callFunc 106 args).run Try.prog w = .ok (.enter 106 args) w := by rfl
def HpPost (w : World) (N qb g n c m : Nat) (xs : List Tn) (e : Ending) (w' : World) : Prop := e = .returned (.tuple #[]) ∧ ∃ ys, TQ N qb g n c ys w' ∧ ys.Perm xs ∧ Hp ys m ∧ Ko w g w'
structure UI (w : World) (N qb g n c : Nat) (xs : List Tn) (jv : Value) (W : World) : Prop where
  at_ : ∃ (j : Nat) (ys : List Tn), jv = .int .i64 (j : Int) ∧ Up ys n j ∧ TQ N qb g n c ys W ∧ ys.Perm xs ∧ Ko w g W
set_option maxRecDepth 100000 in
set_option maxHeartbeats 8000000 in
theorem up_any (N qb g n c : Nat) (xs : List Tn) (j : Nat) (w : World) (hn : n < 1099511627776) (h : TQ N qb g n c xs w) (hu : Up xs n j) : Calls Try.prog 65 #[.iface 97 (.pointer (some ⟨qb, 0, none⟩)), .int .i64 (j : Int)] w (HpPost w N qb g n c n xs) := by
  have H0 : Hid (UI w N qb g n c xs (.int .i64 (j : Int)) w) := ⟨j, xs, rfl, hu, h, List.Perm.refl _, Ko.refl _ _⟩
  clear hu h
  go_enter Try.func65, Try.ntmps65
  go_wp2_with fail
  go_loopw [1, 4] (fun jv _ wr => UI w N qb g n c xs jv wr) (fun jv _ _ => (intOf jv).toNat)
  case atStart => exact H0.out
  case round =>
    obtain ⟨j, ys, rfl, hup, htq, hpm, hko⟩ := hrel
    obtain ⟨wz, hwz⟩ : ∃ y, wr = y := ⟨_, rfl⟩
    rw [hwz] at htq hko ⊢
    have HUP : Hid (Up ys n j) := hup
    have HTQ : Hid (TQ N qb g n c ys wz) := htq
    have HPM : Hid (ys.Perm xs) := hpm
    have HKO : Hid (Ko w g wz) := hko
    have hjn : j < n := hup.lt
    clear hup htq hpm hko hwz
    by_cases j0 : j = 0
    case pos =>
      subst j0
      have HE : Hid (HpPost w N qb g n c n xs (.returned (.tuple #[])) wz) := ⟨rfl, ys, HTQ.out, HPM.out, HUP.out.done (.inl rfl), HKO.out⟩
      have hz : ((0 : Nat) : Int) = 0 := rfl
      rw [hz]
      go_wp2_with fail
      go_end0
      exact HE.out
    obtain ⟨p, hp⟩ : ∃ p, j = p + 1 := ⟨j - 1, by omega⟩
    subst hp
    obtain ⟨i, hi⟩ : ∃ i, p / 2 = i := ⟨_, rfl⟩
    have hdv : ((p : Nat) : Int).tdiv 2 = (i : Int) := by rw [← hi]; rfl
    have hib : (i : Int) < 1099511627776 := by omega
    have hij : ((i : Int) == (p : Int) + 1) = false := beq_false_of_ne (by omega)
    have HI : Hid ((p + 1 - 1) / 2 = i ∧ p + 1 < n ∧ i < p + 1) := ⟨by omega, by omega, by omega⟩
    have hpb : (p : Int) < 1099511627776 := by omega
    clear hi j0
    obtain ⟨r, hr⟩ : ∃ y, decide (dd ys (p + 1) < dd ys i) = y := ⟨_, rfl⟩
    have HR : Hid (decide (dd ys (p + 1) < dd ys i) = r) := hr
    have HLS : Hid (Calls Try.prog 107 #[.slice (some ⟨g, 0, none⟩) n c, .int .i64 ((p : Int) + 1), .int .i64 (i : Int)] wz (fun e w' => e = .returned (.bool r) ∧ wz.drew = w')) := by
      have h5 := less_any N g n c ys (p + 1) i wz HTQ.out.own (by have := HI.out; omega) (by have := HI.out; omega) r (fun h1 h2 => by rw [← HR.out, dd_at h1, dd_at h2])
      exact h5
    clear hr
    go_wp2_with fail
    rw [m_less wz qb _ n c HTQ.out.cell, Result.andThen_ok, e_less]
    refine HLS.out.mono ?_
    rintro e w2 ⟨rfl, rfl⟩
    obtain ⟨w2, hw2⟩ : ∃ y, wz.drew = y := ⟨_, rfl⟩
    rw [hw2]
    have HTQ2 : Hid (TQ N qb g n c ys w2) := by rw [← hw2]; exact HTQ.out.bel (drew_bel wz)
    have HKO2 : Hid (Ko w g w2) := by rw [← hw2]; exact HKO.out.trans (Ko.drew wz g)
    clear hw2 HLS HTQ HKO
    cases r
    case false =>
      have hle := of_decide_eq_false HR.out
      have HE : Hid (HpPost w N qb g n c n xs (.returned (.tuple #[])) w2) := ⟨rfl, ys, HTQ2.out, HPM.out, HUP.out.done (.inr (by have := HI.out.1; rw [this]; omega)), HKO2.out⟩
      clear hle
      go_wp2_with fail
      go_end0
      exact HE.out
    have hlt := of_decide_eq_true HR.out
    have HUS : Hid (Up (sw ys i (p + 1)) n i) := by
      have h5 := HUP.out.step (by rw [HTQ2.out.own.lst.2]; exact Nat.le_refl _) (by omega) (by rw [HI.out.1]; exact hlt)
      rw [HI.out.1] at h5
      exact h5
    have HSW : Hid (Calls Try.prog 108 #[.slice (some ⟨g, 0, none⟩) n c, .int .i64 (i : Int), .int .i64 ((p : Int) + 1)] w2 (fun e w' => e = .returned (.tuple #[]) ∧ OwnL ET N w' (.slice (some ⟨g, 0, none⟩) n c) (sw ys i (p + 1)) ∧ Ko w2 g w')) := by
      have h5 := swap_any N g n c ys i (p + 1) w2 HTQ2.out.own (by have := HI.out; omega) (by have := HI.out; omega)
      exact h5
    clear hlt
    go_wp2_with fail
    rw [m_swap w2 qb _ n c HTQ2.out.cell, Result.andThen_ok, e_swap]
    refine HSW.out.mono ?_
    rintro e w3 ⟨rfl, ho3, hk3⟩
    have HU3 : Hid (UI w N qb g n c xs (.int .i64 (i : Int)) w3) := ⟨i, sw ys i (p + 1), rfl, HUS.out, HTQ2.out.nx ho3 hk3, (sw_perm _ _ _).trans HPM.out, HKO2.out.trans hk3⟩
    clear ho3 hk3 HSW
    go_wp2_with fail
    refine ⟨HU3.out, ?_⟩
    simp [intOf]
    have := HI.out
    omega
end Go.Proofs.Ythhdpfgepjmgkaa.Dj
