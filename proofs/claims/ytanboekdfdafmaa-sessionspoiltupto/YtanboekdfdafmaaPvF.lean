/- Two lists that meet. -/
import Derived.Test.YtanboekdfdafmaaPvE
namespace Go.Proofs.Ytanboekdfdafmaa.Pv
open Go.ChangeShapes Go.WideShapes Go.ChangeAt Go.RowKit Go.Joins Go.Proofs.Ytanboekdfdafmaa.PM Go.Proofs.Ytanboekdfdafmaa.Ask Go.Proofs.Ytanboekdfdafmaa.Ge
set_option linter.unusedVariables false

def lnOf : Value → Nat
  | .slice _ n _ => n
  | _ => 0
theorem lst_if {α : Type} {E : El α} {w : World} {a b : Option Addr} {c : Nat} {l : List α} (h : Lst E w b l) (hc : l.length + 1 ≤ c) : Lst E w (if c = 1 then a else b) l := by
  split
  · obtain rfl : l = [] := List.length_eq_zero_iff.1 (by omega)
    exact ⟨by simp, fun i hi => absurd hi (by simp)⟩
  · exact h
theorem lst_two {w : World} {a : Option Addr} {p : Int × Int} {l : List (Int × Int)} (h : Lst E2 w a (p :: l)) : ∃ b o, a = some ⟨b, o, none⟩ ∧ b < w.heap.size ∧ w.cell? ⟨b, o, none⟩ = some (.int .u32 p.1) ∧ w.cell? ⟨b, o + 1, none⟩ = some (.int .i64 p.2) ∧ Lst E2 w (some ⟨b, o + 2, none⟩) l := by
  obtain ⟨b, o, e, hb, c0, c1⟩ := lst2 h 0 (by simp)
  subst e
  exact ⟨b, o, rfl, hb, by simpa using c0, by simpa using c1, h.drop 1⟩
set_option maxRecDepth 100000 in
set_option maxHeartbeats 8000000 in
theorem meet_any (va vb : Option Addr) (ca cb : Nat) (l m : List (Int × Int)) (n k : Nat) (hn : l.length = n) (hk : m.length = k) (hnc : n ≤ ca) (hkc : k ≤ cb) (w : World) (hl : Lst E2 w va l) (hm : Lst E2 w vb m) (il : ∀ p ∈ l, InA p) (im : ∀ p ∈ m, InA p) (rl : rise l = true) (rm : rise m = true) (R : Bool) (hR : meet l m = R) :
    Calls Try.prog 47 #[.slice va n ca, .slice vb k cb] w fun e w' => e = .returned (.bool R) ∧ Below w.heap.size w w' := by
  have HL : Hid (Lst E2 w va l) := hl
  have HM : Hid (Lst E2 w vb m) := hm
  have HR : Hid (meet l m = R) := hR
  have HN : Hid (l.length = n) := hn
  have HK : Hid (m.length = k) := hk
  have HI : Hid (∀ p ∈ l, InA p) := il
  have HJ : Hid (∀ p ∈ m, InA p) := im
  have HRL : Hid (rise l = true) := rl
  have HRM : Hid (rise m = true) := rm
  clear hl hm hR hn hk il im rl rm
  go_enter Try.func47, Try.ntmps47
  go_wp2_with fail
  go_loopw [0, 1] (fun av bv wr => ∃ (a b : Option Addr) (na nb ca' cb' : Nat) (l' m' : List (Int × Int)), av = .slice a na ca' ∧ bv = .slice b nb cb' ∧ l'.length = na ∧ m'.length = nb ∧ na ≤ ca' ∧ nb ≤ cb' ∧ Lst E2 w a l' ∧ Lst E2 w b m' ∧ (∀ p ∈ l', InA p) ∧ (∀ p ∈ m', InA p) ∧ rise l' = true ∧ rise m' = true ∧ meet l' m' = R ∧ Below w.heap.size w wr) (fun a b _ => lnOf a + lnOf b)
  case atStart => exact ⟨va, vb, n, k, ca, cb, l, m, rfl, rfl, HN.out, HK.out, hnc, hkc, HL.out, HM.out, HI.out, HJ.out, HRL.out, HRM.out, HR.out, Below.refl _ _⟩
  case round =>
    obtain ⟨a, b, na, nb, ca', cb', l', m', rfl, rfl, hna, hnb, hac, hbc, hla, hlb, il, im, rl, rm, hR, hbl⟩ := hrel
    have HB : Hid (Below w.heap.size w wr) := hbl
    have HLA0 : Hid (Lst E2 w a l') := hla
    have HLB0 : Hid (Lst E2 w b m') := hlb
    have HNA : Hid (l'.length = na) := hna
    have HNB : Hid (m'.length = nb) := hnb
    have HI2 : Hid (∀ p ∈ l', InA p) := il
    have HJ2 : Hid (∀ p ∈ m', InA p) := im
    have HRL2 : Hid (rise l' = true) := rl
    have HRM2 : Hid (rise m' = true) := rm
    have HR2 : Hid (meet l' m' = R) := hR
    clear hbl hla hlb hna hnb il im rl rm hR
    by_cases hA : 0 < na
    · by_cases hB : 0 < nb
      · cases l' with
        | nil => have := HNA.out; simp at this; omega
        | cons s l' =>
          cases m' with
          | nil => have := HNB.out; simp at this; omega
          | cons t m' =>
            obtain ⟨ba, oa, rfl, hba, g0, g1, hlA⟩ := lst_two HLA0.out
            obtain ⟨bb, ob, rfl, hbb, i0, i1, hlB⟩ := lst_two HLB0.out
            have HLA1 : Hid (Lst E2 w (if ca' = 1 then some ⟨ba, oa, none⟩ else some ⟨ba, oa + 2, none⟩) l') := lst_if hlA (by have := HNA.out; simp at this; omega)
            have HLB1 : Hid (Lst E2 w (if cb' = 1 then some ⟨bb, ob, none⟩ else some ⟨bb, ob + 2, none⟩) m') := lst_if hlB (by have := HNB.out; simp at this; omega)
            have hin := HI2.out s (List.mem_cons_self ..)
            have hin2 := HJ2.out t (List.mem_cons_self ..)
            have HNA1 : Hid (l'.length = na - 1) := by have := HNA.out; simp at this; show _ = _; omega
            have HNB1 : Hid (m'.length = nb - 1) := by have := HNB.out; simp at this; show _ = _; omega
            have HMT : Hid ((lt2 s t = true → meet l' (t :: m') = R) ∧ (lt2 t s = true → meet (s :: l') m' = R) ∧ (s = t → true = R)) := ⟨fun h => by rw [← meet_lt h HRM2.out]; exact HR2.out, fun h => by rw [← meet_gt h HRL2.out]; exact HR2.out, fun h => by subst h; rw [← HR2.out, meet_eq]⟩
            obtain ⟨pa, pn⟩ := s
            obtain ⟨qa, qn⟩ := t
            obtain ⟨p0, p1⟩ := hin
            obtain ⟨q0, q1⟩ := hin2
            dsimp only at p0 p1 q0 q1 g0 g1 i0 i1
            have c0 : wr.cell? ⟨ba, oa, none⟩ = some (.int .u32 pa) := (World.cell?_of_block (w := w) (HB.out.block ba hba)).trans g0
            have c1 : wr.cell? ⟨ba, oa + 1, none⟩ = some (.int .i64 pn) := (World.cell?_of_block (w := w) (HB.out.block ba hba)).trans g1
            have d0 : wr.cell? ⟨bb, ob, none⟩ = some (.int .u32 qa) := (World.cell?_of_block (w := w) (HB.out.block bb hbb)).trans i0
            have d1 : wr.cell? ⟨bb, ob + 1, none⟩ = some (.int .i64 qn) := (World.cell?_of_block (w := w) (HB.out.block bb hbb)).trans i1
            obtain ⟨t, ht⟩ : ∃ t, ord pa pn qa qn = t := ⟨_, rfl⟩
            have HC : Hid (∀ W, Calls Try.prog 46 #[.agg #[.int .u32 pa, .int .i64 pn], .agg #[.int .u32 qa, .int .i64 qn]] W fun e w' => e = .returned (.int .i64 t) ∧ Below W.heap.size W w') := fun W => by rw [← ht]; exact order_any pa pn qa qn p0 p1 q0 q1 W
            have HT : Hid ((t = 0 → pa = qa ∧ pn = qn) ∧ (t < 0 → lt2 (pa, pn) (qa, qn) = true) ∧ (0 < t → lt2 (qa, qn) (pa, pn) = true)) := by
              show _ ∧ _
              rw [← ht]
              unfold ord lt2
              simp only [decide_eq_true_eq]
              split <;> (try split) <;> omega
            have hai : (0 : Int) < na := by omega
            have hbi : (0 : Int) < nb := by omega
            have hna9 : (na : Int) ≤ ca' := by omega
            have hnb9 : (nb : Int) ≤ cb' := by omega
            have HBD : Hid (∀ q, Below w.heap.size w (wr.drewN q)) := fun q => below_drewN HB.out q
            clear ht g0 g1 i0 i1 hlA hlB
            go_wp2_with fail
            go_still_tail 6, (by kernel_rfl)
            go_wp2_with fail
            refine (HC.out _).mono ?_
            rintro e w2 ⟨rfl, hb2⟩
            have HB2 : Hid (Below w.heap.size w w2) := (HBD.out 1).trans (hb2.mono (HBD.out 1).size)
            clear hb2 c0 c1 d0 d1
            by_cases t0 : t = 0
            · obtain ⟨e1, e2⟩ := HT.out.1 t0
              have HE : Hid (true = R) := HMT.out.2.2 (by rw [e1, e2])
              subst t0
              clear e1 e2
              go_wp2_with fail
              go_ret
              exact ⟨ret_bool HE.out, HB2.out⟩
            · have t0b : (t == 0) = false := by simpa using t0
              by_cases t1 : t < 0
              · have HMX : Hid (meet l' ((qa, qn) :: m') = R) := HMT.out.1 (HT.out.2.1 t1)
                go_wp2_with fail
                exact ⟨⟨_, _, na - 1, nb, ca' - 1, cb', l', (qa, qn) :: m', by first | rfl | trivial, by first | rfl | trivial, HNA1.out, HNB.out, by omega, by omega, HLA1.out, HLB0.out, fun p hp => HI2.out p (List.mem_cons_of_mem _ hp), HJ2.out, rise_tail HRL2.out, HRM2.out, HMX.out, HB2.out⟩, by simp [lnOf]; omega⟩
              · have HMX : Hid (meet ((pa, pn) :: l') m' = R) := HMT.out.2.1 (HT.out.2.2 (by omega))
                go_wp2_with fail
                exact ⟨⟨_, _, na, nb - 1, ca', cb' - 1, (pa, pn) :: l', m', by first | rfl | trivial, by first | rfl | trivial, HNA.out, HNB1.out, by omega, by omega, HLA0.out, HLB1.out, HI2.out, fun p hp => HJ2.out p (List.mem_cons_of_mem _ hp), HRL2.out, rise_tail HRM2.out, HMX.out, HB2.out⟩, by simp [lnOf]; omega⟩
      · obtain rfl : nb = 0 := by omega
        have hai : (0 : Int) < na := by omega
        have HE : Hid (false = R) := by
          have : m' = [] := List.length_eq_zero_iff.1 HNB.out
          rw [← HR2.out, this, meet_nil2]
          exact rfl
        go_wp2_with fail
        go_ret
        exact ⟨ret_bool HE.out, HB.out⟩
    · obtain rfl : na = 0 := by omega
      have HE : Hid (false = R) := by
        have : l' = [] := List.length_eq_zero_iff.1 HNA.out
        rw [← HR2.out, this, meet_nil]
        exact rfl
      go_wp2_with fail
      go_ret
      exact ⟨ret_bool HE.out, HB.out⟩
end Go.Proofs.Ytanboekdfdafmaa.Pv
