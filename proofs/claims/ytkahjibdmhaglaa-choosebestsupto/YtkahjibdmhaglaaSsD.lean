/- The stable sort's symMerge. -/
import Derived.Test.YtkahjibdmhaglaaSsC
import Derived.Shelf.SlSortCmp.Insertion1
namespace Go.Proofs.Ytkahjibdmhaglaa.Ss
open Go.Sort Go.Shelf Go.RowKit Go.Lib Go.Proofs
set_option linter.unusedVariables false
variable {α : Type} [Inhabited α]

/-- what symMerge does -/
def SymPost (lt : α → α → Bool) (pos : α → Nat) (enc : α → Value) (w0 : World) (blk off a b : Nat) (d : Array α) (e : Ending) (w' : World) : Prop := e = .returned (.tuple #[]) ∧ ∃ d', Mrg lt pos a b d d' ∧ SW enc w0 blk off d' w'
set_option maxHeartbeats 8000000 in
set_option maxRecDepth 1000000 in
theorem sym_one (enc : α → Value) (cf : α → α → Int) (pos : α → Nat) (hS : SWO (ltOf cf)) (g : Nat) (cb : Array Value) (blk off cap sz : Nat) (d0 : Array α) (w0 : World)
    (eg : ∀ args w, (callFunc g args).run Try.prog w = .ok (.enter g args) w) (hcmp : CmpLays1 Try.prog g cb enc cf blk off d0.size w0) (R : Row1 enc w0 blk off d0) (hs : d0.size = sz) (hsz : sz < 4611686018427387904)
    (a b t : Nat) (d : Array α) (w : World) (hz : d.size = sz) (S : SW enc w0 blk off d w) (hmb : a + 1 < b) (hb : b ≤ sz) (h2 : SortedIn (lt2 (ltOf cf) pos) (a + 1) b d) (ht : Thr pos t a (a + 1) b d) :
    Calls Try.prog 68 #[.slice (some ⟨blk, off, none⟩) sz cap, .int .i64 a, .int .i64 ((a : Int) + 1), .int .i64 b, .func (.func g) #[] cb] w (SymPost (ltOf cf) pos enc w0 blk off a b d) := by
  have mixed : Try.prog.follows Departure.mixedOrders = true := by kernel_rfl
  have hcl0 := R.hO.cells
  simp only [Value.cells] at hcl0
  have hst := R.hO.store Try.prog
  have HC : Aside (CmpLays1 Try.prog g cb enc cf blk off d0.size w0) := hcmp
  have S0 : Aside (SW enc w0 blk off d w) := S
  have HZ : Aside (d.size = sz) := hz
  have HFIN : Aside (∀ (i : Nat) (d' : Array α), a + 1 ≤ i → i ≤ b → (i = a + 1 ∨ ltOf cf d[i - 1]! d[a]! = true) → (i = b ∨ ltOf cf d[i]! d[a]! = false) → IsRot a (a + 1) i a b d d' → Mrg (ltOf cf) pos a b d d') := fun i d' h1' h2' h3' h4' h5' => mrg1 hS h2 ht h1' h2' h3' h4' h5'
  have q1 : IntKind.i64.wrap ((a : Int) + 1 - (a : Int)) = 1 := by rw [IntKind.wrap_i64]; omega
  clear S hz h2 ht hcmp
  go_enter Try.func68, Try.ntmps68
  go_wp2_with fail
  go_loopg [10, 11] (b - a) (fun kx s8 s9 wr => ∃ (i j : Nat), s8 = .int .i64 i ∧ s9 = .int .i64 j ∧ a + 1 ≤ i ∧ i ≤ j ∧ j ≤ b ∧ j - i ≤ kx ∧ Aside (SW enc w0 blk off d wr) ∧ Aside (i = a + 1 ∨ ltOf cf d[i - 1]! d[a]! = true) ∧ Aside (j = b ∨ ltOf cf d[j]! d[a]! = false))
  case atStart => exact ⟨a + 1, b, by simp, rfl, by omega, by omega, by omega, by omega, S0, Or.inl rfl, Or.inl rfl⟩
  case round =>
    clear S0 q1
    obtain ⟨i, j, rfl, rfl, hi, hij, hj, hkx, S1, H1, H2⟩ := hrel
    by_cases hlt : (i : Int) < (j : Int)
    · have q2 : IntKind.u64.wrap ((i : Int) + (j : Int)) = (i : Int) + (j : Int) := by simp [IntKind.wrap, IntKind.bits, IntKind.signed]; omega
      have q3 : IntKind.i64.wrap ((i : Int) + (j : Int)) = (i : Int) + (j : Int) := by rw [IntKind.wrap_i64]; omega
      obtain ⟨h, hh⟩ : ∃ h : Nat, h = (i + j) / 2 := ⟨_, rfl⟩
      have eh : ((i : Int) + (j : Int)) / 2 = (h : Int) := by omega
      have hih : i ≤ h := by omega
      have hhj : h < j := by omega
      have q4 : IntKind.i64.wrap ((h : Int) + 1) = (h : Int) + 1 := by rw [IntKind.wrap_i64]; omega
      have p1 : (0 : Int) ≤ (h : Int) := by omega
      have p2 : (h : Int) < (sz : Int) := by omega
      have p3 : (0 : Int) ≤ (a : Int) := by omega
      have p4 : (a : Int) < (sz : Int) := by omega
      clear hh
      have hds : d.size = sz := HZ.out
      have la := S1.out.cl R (by omega) h (by omega)
      have lb := S1.out.cl R (by omega) a (by omega)
      obtain ⟨x, hx⟩ : ∃ x, x = d[h]! := ⟨_, rfl⟩
      obtain ⟨y, hy⟩ : ∃ y, y = d[a]! := ⟨_, rfl⟩
      rw [← hx] at la
      rw [← hy] at lb
      have hc := S1.out.cmp HC.out (by omega) x y
      have HX : Aside (x = d[h]! ∧ y = d[a]!) := ⟨hx, hy⟩
      clear hx hy hds
      cases hv : ltOf cf x y with
      | true =>
        have hv1 : cf x y < 0 := of_decide_eq_true hv
        have hd1 : decide (cf x y < 0) = true := hv
        have HV : Aside (ltOf cf d[h]! d[a]! = true) := by show _ = _; rw [← HX.out.1, ← HX.out.2]; exact hv
        clear hv
        go_wp2_with fail
        go_quiet_grown (first | (go_at_fn g; refine Calls.grown_of (hc _ _)))
        have S2 : Aside (SW enc w0 blk off d (grow (wr.drewN nq) osq)) := S1.out.grown nq osq
        clear la lb hc S1 HX
        generalize grow (wr.drewN nq) osq = w2 at S2 ⊢
        clear nq osq
        go_wp2
        go_roundg (j - (h + 1))
        case measure => omega
        case rel => exact ⟨h + 1, j, by simp, rfl, by omega, by omega, by omega, Nat.le_refl _, S2, Or.inr (by rw [Nat.add_sub_cancel]; exact HV.out), H2⟩
      | false =>
        have hv1 : ¬ cf x y < 0 := of_decide_eq_false hv
        have hd1 : decide (cf x y < 0) = false := hv
        have HV : Aside (ltOf cf d[h]! d[a]! = false) := by show _ = _; rw [← HX.out.1, ← HX.out.2]; exact hv
        clear hv
        go_wp2_with fail
        go_quiet_grown (first | (go_at_fn g; refine Calls.grown_of (hc _ _)))
        have S2 : Aside (SW enc w0 blk off d (grow (wr.drewN nq) osq)) := S1.out.grown nq osq
        clear la lb hc S1 HX
        generalize grow (wr.drewN nq) osq = w2 at S2 ⊢
        clear nq osq
        go_wp2
        go_roundg (h - i)
        case measure => omega
        case rel => exact ⟨i, h, rfl, by simp, by omega, by omega, by omega, Nat.le_refl _, S2, H1, Or.inr HV.out⟩
    · obtain rfl : i = j := by omega
      clear hlt
      have q5 : IntKind.i64.wrap ((i : Int) - 1) = (i : Int) - 1 := by rw [IntKind.wrap_i64]; omega
      go_wp2_with fail
      go_loopg [13] i (fun kx s8 wr2 => ∃ (k : Nat) (dk : Array α), s8 = .int .i64 k ∧ a ≤ k ∧ k + 1 ≤ i ∧ i - 1 - k ≤ kx ∧ Aside (dk.size = sz) ∧ Aside (SW enc w0 blk off dk wr2) ∧ Aside (IsRot a (a + 1) (k + 1) a b d dk))
      case atStart => exact ⟨a, d, rfl, by omega, by omega, by omega, HZ, S1, IsRot.same _ (.inr (Nat.le_refl _)) (by omega) (Nat.le_refl _)⟩
      case round =>
        clear S1
        obtain ⟨k, dk, rfl, hk, hki, hkx2, HZ2, S1, HR⟩ := hrel
        have hds : dk.size = sz := HZ2.out
        have hd0 : d.size = sz := HZ.out
        by_cases hlt : (k : Int) < (i : Int) - 1
        · obtain ⟨iN, hiN⟩ : ∃ q, q = k := ⟨_, rfl⟩
          obtain ⟨jN, hjN⟩ : ∃ q, q = k + 1 := ⟨_, rfl⟩
          have ea : ((k : Int)).toNat = iN := by omega
          have pa : (0 : Int) ≤ (k : Int) := by omega
          have ba : (k : Int) < (sz : Int) := by omega
          have ec : ((k : Int) + 1).toNat = jN := by omega
          have pc : (0 : Int) ≤ (k : Int) + 1 := by omega
          have bc : (k : Int) + 1 < (sz : Int) := by omega
          have rc : IntKind.i64.wrap ((k : Int) + 1) = (k : Int) + 1 := by rw [IntKind.wrap_i64]; omega
          obtain ⟨x, hx⟩ : ∃ x, x = dk[k]! := ⟨_, rfl⟩
          obtain ⟨y, hy⟩ : ∃ x, x = dk[k + 1]! := ⟨_, rfl⟩
          have S2 : Aside (SW enc w0 blk off (swp dk k (k + 1)) ((wr.setCell ⟨blk, off + iN, none⟩ (enc y)).setCell ⟨blk, off + jN, none⟩ (enc x)).drew) := by rw [hiN, hjN, hx, hy]; exact S1.out.swapped R k (k + 1) (by omega) (by omega)
          have H3 : Aside (IsRot a (a + 1) (k + 2) a b d (swp dk k (k + 1))) := HR.out.up hk (by omega) (by omega) (by omega)
          have ca := S1.out.c1 R (by omega) k (by omega)
          have cb' := S1.out.c1 R (by omega) (k + 1) (by omega)
          have fa := S1.out.f1 R (by omega) k (by omega)
          have fb := S1.out.f1 R (by omega) (k + 1) (by omega)
          obtain ⟨u, cc⟩ := S1.out.c2 R (by omega) k (k + 1) (by omega) (by omega) (enc y)
          rw [← hjN, ← hiN] at cc
          rw [← hx, ← hiN] at ca
          rw [← hy, ← hjN] at cb'
          rw [← hiN] at fa
          rw [← hjN] at fb
          have HZ3 : Aside ((swp dk k (k + 1)).size = sz) := by show _ = _; rw [swp_size]; exact hds
          clear S1 HR hx hy hiN hjN hds hd0
          go_wp2_with fail
          go_big_region_o
          clear ca cb' cc fa fb
          generalize ((wr.setCell ⟨blk, off + iN, none⟩ (enc y)).setCell ⟨blk, off + jN, none⟩ (enc x)).drew = w2 at S2 ⊢
          clear ea ec
          go_wp2
          go_roundg (i - 1 - (k + 1))
          case measure => omega
          case rel => exact ⟨k + 1, swp dk k (k + 1), by simp, by omega, by omega, by omega, HZ3, S2, H3⟩
        · go_wp2
          go_end0
          have e1 : k + 1 = i := by omega
          rw [e1] at HR
          exact ⟨rfl, dk, HFIN.out i dk hi (by omega) H1.out H2.out HR.out, S1.out⟩
end Go.Proofs.Ytkahjibdmhaglaa.Ss
