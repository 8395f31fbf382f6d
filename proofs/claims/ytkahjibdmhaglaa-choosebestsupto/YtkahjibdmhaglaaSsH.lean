/- slices.SortStableFunc of ints: a permutation, sorted; of two that neither is less the earlier one stands first. -/
import Derived.Test.YtkahjibdmhaglaaSsF
import Derived.Test.YtkahjibdmhaglaaSsG
import Derived.Test.YtkahjibdmhaglaaShelf
namespace Go.Proofs.Ytkahjibdmhaglaa.Ss
open Go.Sort Go.Shelf Go.RowKit Go.Lib Go.Proofs
set_option linter.unusedVariables false
variable {α : Type} [Inhabited α]

theorem ins_any (enc : α → Value) (cf : α → α → Int) (g : Nat) (cb : Array Value) (blk off cap sz : Nat) (d0 : Array α) (w0 : World)
    (eg : ∀ args w, (callFunc g args).run Try.prog w = .ok (.enter g args) w) (hcmp : CmpLays1 Try.prog g cb enc cf blk off d0.size w0) (R : Row1 enc w0 blk off d0) (hs : d0.size = sz) (hsz : sz < 4611686018427387904)
    (a b : Nat) (d : Array α) (w : World) (hz : d.size = sz) (S : SW enc w0 blk off d w) (hab : a ≤ b) (hb : b ≤ sz) :
    Calls Try.prog 58 #[.slice (some ⟨blk, off, none⟩) sz cap, .int .i64 a, .int .i64 b, .func (.func g) #[] cb] w fun e w' => e = .returned (.tuple #[]) ∧ SW enc w0 blk off (insertionSort (ltOf cf) d a b) w' := by
  have h := Any.insertionSortCmpFunc_s (P := Try.prog) (ρ := Try.sortI_ren) { Try.sortI with } enc cf g cb blk off cap a b d0 d w0 w eg hcmp R (hs.trans hz.symm) S hab (by rw [hz]; exact hb) (by rw [hz]; exact hsz)
  rw [hz] at h
  exact h
set_option maxHeartbeats 16000000 in
set_option maxRecDepth 1000000 in
theorem stable_any (enc : α → Value) (cf : α → α → Int) (pos : α → Nat) (hS : SWO (ltOf cf)) (g : Nat) (cb : Array Value) (blk off cap sz : Nat) (d0 : Array α) (w0 : World)
    (eg : ∀ args w, (callFunc g args).run Try.prog w = .ok (.enter g args) w) (hcmp : CmpLays1 Try.prog g cb enc cf blk off d0.size w0) (R : Row1 enc w0 blk off d0) (hs : d0.size = sz) (hsz : sz < 4611686018427387904) (hp : ∀ i, i < sz → pos d0[i]! = i) :
    Calls Try.prog 53 #[.slice (some ⟨blk, off, none⟩) sz cap, .int .i64 sz, .func (.func g) #[] cb] w0 fun e w' => e = .returned (.tuple #[]) ∧ ∃ d', Mrg (ltOf cf) pos 0 sz d0 d' ∧ SW enc w0 blk off d' w' := by
  have HC : Aside (CmpLays1 Try.prog g cb enc cf blk off d0.size w0) := hcmp
  have S0 : Aside (SW enc w0 blk off d0 w0) := SW.start R.hH
  have P0 : Aside (Ph1 (ltOf cf) pos 20 sz 0 d0 d0) := Ph1.start hs hp
  clear hcmp hp
  go_enter Try.func53, Try.ntmps53
  go_wp2_with fail
  go_loopg [7, 8] sz (fun kx s8 s9 wr => ∃ (a : Nat) (dk : Array α), s8 = .int .i64 a ∧ s9 = .int .i64 ((a : Int) + 20) ∧ a ≤ sz ∧ sz - a ≤ kx ∧ Aside (SW enc w0 blk off dk wr) ∧ Aside (Ph1 (ltOf cf) pos 20 sz a d0 dk))
  case atStart => exact ⟨0, d0, rfl, rfl, by omega, by omega, S0, P0⟩
  case round =>
    clear S0 P0
    obtain ⟨a, dk, rfl, rfl, ha, hkx, S1, P1⟩ := hrel
    by_cases hlt : (a : Int) + 20 ≤ (sz : Int)
    · have HR := ins_any enc cf g cb blk off cap sz d0 w0 eg HC.out R hs hsz a (a + 20) dk wr P1.out.size S1.out (by omega) (by omega)
      have e1 : ((a + 20 : Nat) : Int) = (a : Int) + 20 := by omega
      rw [e1] at HR
      have q1 : IntKind.i64.wrap ((a : Int) + 20 + 20) = (a : Int) + 20 + 20 := by rw [IntKind.wrap_i64]; omega
      go_wp2_with fail
      refine HR.mono ?_
      rintro e2 w2 ⟨rfl, hs1⟩
      have HS1 : Aside (SW enc w0 blk off (insertionSort (ltOf cf) dk a (a + 20)) w2) := hs1
      clear hs1 HR
      go_wp2_with fail
      go_roundg (sz - (a + 20))
      case measure => omega
      case rel => exact ⟨a + 20, insertionSort (ltOf cf) dk a (a + 20), by simp, by simp, by omega, by omega, HS1, P1.out.step hS (by omega)⟩
    · have HR := ins_any enc cf g cb blk off cap sz d0 w0 eg HC.out R hs hsz a sz dk wr P1.out.size S1.out (by omega) (by omega)
      have HB : Aside (Blk (ltOf cf) pos 20 sz d0 (insertionSort (ltOf cf) dk a sz)) := P1.out.last hS (by omega)
      go_wp2_with fail
      refine HR.mono ?_
      rintro e2 w2 ⟨rfl, hs1⟩
      obtain ⟨d1, hd1⟩ : ∃ y, insertionSort (ltOf cf) dk a sz = y := ⟨_, rfl⟩
      rw [hd1] at hs1 HB
      have S0 : Aside (SW enc w0 blk off d1 w2) := hs1
      clear hs1 HR hd1 S1 P1 hkx hlt ha
      go_wp2_with fail
      go_loopg [6] sz (fun kx s6 wr => ∃ (s : Nat) (dk : Array α), s6 = .int .i64 s ∧ 20 ≤ s ∧ s ≤ 2 * sz + 20 ∧ sz - s ≤ kx ∧ Aside (SW enc w0 blk off dk wr) ∧ Aside (Blk (ltOf cf) pos s sz d0 dk))
      case atStart => exact ⟨20, d1, rfl, by omega, by omega, by omega, S0, HB⟩
      case round =>
        clear S0 HB
        obtain ⟨s, dk, rfl, hs20, hs2, hkx, S1, B1⟩ := hrel
        by_cases hlt : (s : Int) < (sz : Int)
        · obtain ⟨t, ht⟩ : ∃ t : Nat, t = 2 * s := ⟨_, rfl⟩
          have HT : Aside (t = 2 * s) := ht
          have q1 : IntKind.i64.wrap (2 * (s : Int)) = (t : Int) := by rw [IntKind.wrap_i64]; omega
          have q2 : IntKind.i64.wrap ((s : Int) * 2) = (t : Int) := by rw [IntKind.wrap_i64]; omega
          have S0 : Aside (SW enc w0 blk off dk wr) := S1
          have P0 : Aside (Ph2 (ltOf cf) pos s sz 0 d0 dk) := Ph2.start B1.out
          clear S1 B1 ht
          go_wp2_with fail
          go_loopg [7, 8] sz (fun kx s8 s9 wr => ∃ (a : Nat) (dk : Array α), s8 = .int .i64 a ∧ s9 = .int .i64 ((a : Int) + (t : Int)) ∧ a ≤ sz ∧ sz - a ≤ kx ∧ Aside (SW enc w0 blk off dk wr) ∧ Aside (Ph2 (ltOf cf) pos s sz a d0 dk))
          case atStart => exact ⟨0, dk, rfl, by simp, by omega, by omega, S0, P0⟩
          case round =>
            clear S0 P0
            obtain ⟨a, dj, rfl, rfl, ha, hkx2, S1, P1⟩ := hrel
            have q3 : IntKind.i64.wrap ((a : Int) + (s : Int)) = (a : Int) + (s : Int) := by rw [IntKind.wrap_i64]; omega
            have e1 : ((a + s : Nat) : Int) = (a : Int) + (s : Int) := by omega
            by_cases hlt2 : (a : Int) + (t : Int) ≤ (sz : Int)
            · have e2 : ((a + t : Nat) : Int) = (a : Int) + (t : Int) := by omega
              have hpre := P1.out.pre (b := a + t) (by have := HT.out; omega) (by have := HT.out; omega)
              have HR := sym_any enc cf pos hS g cb blk off cap sz d0 w0 eg HC.out R hs hsz (a + t) a (a + s) (a + t) (a + s) dj wr (by omega) P1.out.size S1.out (by omega) (by have := HT.out; omega) (by omega) hpre.1 hpre.2.1 hpre.2.2
              rw [e1, e2] at HR
              have q4 : IntKind.i64.wrap ((a : Int) + (t : Int) + (t : Int)) = (a : Int) + (t : Int) + (t : Int) := by rw [IntKind.wrap_i64]; have := HT.out; omega
              clear hpre
              go_wp2_with fail
              refine HR.mono ?_
              rintro e2 w2 ⟨rfl, d2, hm2, hs1⟩
              have HM2 : Aside (Mrg (ltOf cf) pos a (a + t) dj d2) := hm2
              have HS1 : Aside (SW enc w0 blk off d2 w2) := hs1
              clear hs1 HR hm2
              go_wp2_with fail
              go_roundg (sz - (a + t))
              case measure => have := HT.out; omega
              case rel => exact ⟨a + t, d2, by simp, by simp, by omega, by omega, HS1, by
                have h5 := HM2.out
                have h6 := HT.out
                subst h6
                exact P1.out.step (by omega) h5⟩
            · by_cases hlt3 : (a : Int) + (s : Int) < (sz : Int)
              · have hpre := P1.out.pre (b := sz) (by omega) (by have := HT.out; omega)
                have HR := sym_any enc cf pos hS g cb blk off cap sz d0 w0 eg HC.out R hs hsz sz a (a + s) sz (a + s) dj wr (by omega) P1.out.size S1.out (by omega) (by omega) (by omega) hpre.1 hpre.2.1 hpre.2.2
                rw [e1] at HR
                clear hpre
                go_wp2_with fail
                refine HR.mono ?_
                rintro e2 w2 ⟨rfl, d2, hm2, hs1⟩
                have HM2 : Aside (Mrg (ltOf cf) pos a sz dj d2) := hm2
                have HS1 : Aside (SW enc w0 blk off d2 w2) := hs1
                clear hs1 HR hm2
                go_wp2_with fail
                go_roundg (sz - t)
                case measure => have := HT.out; omega
                case rel => exact ⟨t, d2, rfl, by have := HT.out; omega, by have := HT.out; omega, by omega, HS1, by
                  have h5 := HM2.out
                  have h6 := HT.out
                  subst h6
                  exact P1.out.last (by omega) h5⟩
              · go_wp2_with fail
                go_roundg (sz - t)
                case measure => have := HT.out; omega
                case rel => exact ⟨t, dj, rfl, by have := HT.out; omega, by have := HT.out; omega, by omega, S1, by
                  have h6 := HT.out
                  subst h6
                  exact P1.out.last (by omega) (P1.out.idle (by omega))⟩
        · go_wp2_with fail
          go_end0
          exact ⟨rfl, dk, B1.out.done (by omega), S1.out⟩
set_option maxHeartbeats 4000000 in
theorem sortstable_any (enc : α → Value) (cf : α → α → Int) (pos : α → Nat) (hS : SWO (ltOf cf)) (g : Nat) (cb : Array Value) (blk off cap sz : Nat) (d0 : Array α) (w0 : World)
    (eg : ∀ args w, (callFunc g args).run Try.prog w = .ok (.enter g args) w) (hcmp : CmpLays1 Try.prog g cb enc cf blk off d0.size w0) (R : Row1 enc w0 blk off d0) (hs : d0.size = sz) (hsz : sz < 4611686018427387904) (hp : ∀ i, i < sz → pos d0[i]! = i) :
    Calls Try.prog 31 #[.slice (some ⟨blk, off, none⟩) sz cap, .func (.func g) #[] cb] w0 fun e w' => e = .returned (.tuple #[]) ∧ ∃ d', Mrg (ltOf cf) pos 0 sz d0 d' ∧ SW enc w0 blk off d' w' := by
  have HR := stable_any enc cf pos hS g cb blk off cap sz d0 w0 eg hcmp R hs hsz hp
  clear hcmp
  go_enter Try.func31, Try.ntmps31
  go_wp2_with fail
  refine HR.mono ?_
  rintro e2 w2 ⟨rfl, hs1⟩
  have HS1 : Aside (∃ d', Mrg (ltOf cf) pos 0 sz d0 d' ∧ SW enc w0 blk off d' w2) := hs1
  clear hs1 HR
  go_wp2_with fail
  go_end0
  exact ⟨rfl, HS1.out⟩
end Go.Proofs.Ytkahjibdmhaglaa.Ss
