/- The stable sort's symMerge, whole. -/
import Derived.Test.YtkahjibdmhaglaaSsE
import Derived.Deep.CutBlock
namespace Go.Proofs.Ytkahjibdmhaglaa.Ss
open Go.Sort Go.Shelf Go.RowKit Go.Lib Go.Proofs
set_option linter.unusedVariables false
variable {α : Type} [Inhabited α]

theorem IsRot.wide {a m b lo hi lo' hi' : Nat} {d d' : Array α} (h : IsRot a m b lo hi d d') (h1 : lo' ≤ lo) (h2 : hi ≤ hi') (h3 : hi' ≤ d.size) : IsRot a m b lo' hi' d d' := ⟨h.size, h.at_, permIn_mono _ _ _ _ _ _ h1 h2 h3 h.perm⟩
/-- where the search begins and ends -/
structure Lim (a m b mid lo hi : Nat) : Prop where
  h1 : a ≤ lo
  h2 : lo ≤ hi
  h3 : hi ≤ m
  h4 : hi ≤ mid
  h5 : mid + m ≤ lo + b
  h6 : lo = a ∨ mid + m = lo + b
  h7 : hi = m ∨ hi = mid
set_option maxHeartbeats 16000000 in
set_option maxRecDepth 1000000 in
theorem sym_any (enc : α → Value) (cf : α → α → Int) (pos : α → Nat) (hS : SWO (ltOf cf)) (g : Nat) (cb : Array Value) (blk off cap sz : Nat) (d0 : Array α) (w0 : World)
    (eg : ∀ args w, (callFunc g args).run Try.prog w = .ok (.enter g args) w) (hcmp : CmpLays1 Try.prog g cb enc cf blk off d0.size w0) (R : Row1 enc w0 blk off d0) (hs : d0.size = sz) (hsz : sz < 4611686018427387904) : ∀ (z : Nat)
    (a m b t : Nat) (d : Array α) (w : World), b - a ≤ z → d.size = sz → SW enc w0 blk off d w → a < m → m < b → b ≤ sz → SortedIn (lt2 (ltOf cf) pos) a m d → SortedIn (lt2 (ltOf cf) pos) m b d → Thr pos t a m b d →
    Calls Try.prog 68 #[.slice (some ⟨blk, off, none⟩) sz cap, .int .i64 a, .int .i64 m, .int .i64 b, .func (.func g) #[] cb] w (SymPost (ltOf cf) pos enc w0 blk off a b d) := by
  intro z
  induction z with
  | zero => intro a m b t d w h; omega
  | succ z ih => ?_
  intro a m b t d w hzz hz S ham hmb hb h1 h2 ht
  by_cases c1 : m = a + 1
  · subst c1
    have h := sym_one enc cf pos hS g cb blk off cap sz d0 w0 eg hcmp R hs hsz a b t d w hz S hmb hb h2 ht
    exact h
  by_cases c2 : b = m + 1
  · subst c2
    have h := sym_two enc cf pos hS g cb blk off cap sz d0 w0 eg hcmp R hs hsz a m t d w hz S (by omega) hb h1 ht
    exact h
  have mixed : Try.prog.follows Departure.mixedOrders = true := by kernel_rfl
  have HC : Aside (CmpLays1 Try.prog g cb enc cf blk off d0.size w0) := hcmp
  have S0 : Aside (SW enc w0 blk off d w) := S
  have HZ : Aside (d.size = sz) := hz
  have IH : Aside (∀ (a m b t : Nat) (d : Array α) (w : World), b - a ≤ z → d.size = sz → SW enc w0 blk off d w → a < m → m < b → b ≤ sz → SortedIn (lt2 (ltOf cf) pos) a m d → SortedIn (lt2 (ltOf cf) pos) m b d → Thr pos t a m b d →
    Calls Try.prog 68 #[.slice (some ⟨blk, off, none⟩) sz cap, .int .i64 a, .int .i64 m, .int .i64 b, .func (.func g) #[] cb] w (SymPost (ltOf cf) pos enc w0 blk off a b d)) := ih
  have HM : Aside (SortedIn (lt2 (ltOf cf) pos) a m d ∧ SortedIn (lt2 (ltOf cf) pos) m b d ∧ Thr pos t a m b d) := ⟨h1, h2, ht⟩
  have q0 : IntKind.i64.wrap ((m : Int) - (a : Int)) = (m : Int) - (a : Int) := by rw [IntKind.wrap_i64]; omega
  have q1 : IntKind.i64.wrap ((b : Int) - (m : Int)) = (b : Int) - (m : Int) := by rw [IntKind.wrap_i64]; omega
  have qb0 : (((m : Int) - (a : Int)) == 1) = false := by simp; omega
  have qb1 : (((b : Int) - (m : Int)) == 1) = false := by simp; omega
  have q2 : IntKind.u64.wrap ((a : Int) + (b : Int)) = (a : Int) + (b : Int) := by simp [IntKind.wrap, IntKind.bits, IntKind.signed]; omega
  have q3 : IntKind.i64.wrap ((a : Int) + (b : Int)) = (a : Int) + (b : Int) := by rw [IntKind.wrap_i64]; omega
  obtain ⟨mid, hmid⟩ : ∃ h : Nat, h = (a + b) / 2 := ⟨_, rfl⟩
  have em : ((a : Int) + (b : Int)) / 2 = (mid : Int) := by omega
  have hm1 : a < mid := by omega
  have hm2 : mid < b := by omega
  have hm3 : Aside (2 * mid ≤ a + b ∧ a + b ≤ 2 * mid + 1) := ⟨by omega, by omega⟩
  obtain ⟨n, hn⟩ : ∃ n : Nat, n = mid + m := ⟨_, rfl⟩
  have HN : Aside (n = mid + m) := hn
  have q4 : IntKind.i64.wrap ((mid : Int) + (m : Int)) = (n : Int) := by rw [IntKind.wrap_i64]; omega
  clear S hz ih h1 h2 ht hcmp c1 c2 hmid hn
  go_enter Try.func68, Try.ntmps68
  go_upto_if 140 with fail
  go_cut [20, 21] from 138 to 146 (fun sv rv wx => ∃ lo hi : Nat, sv = .int .i64 lo ∧ rv = .int .i64 hi ∧ Aside (Lim a m b mid lo hi) ∧ wx = w)
  case first =>
    by_cases hc : (mid : Int) < (m : Int)
    · have q5 : IntKind.i64.wrap ((n : Int) - (b : Int)) = (n : Int) - (b : Int) := by rw [IntKind.wrap_i64]; have := HN.out; omega
      go_wp2_with fail
      go_meet
      exact ⟨n - b, mid, by congr 1; have := HN.out; have := hm3.out; omega, rfl, ⟨by have := HN.out; have := hm3.out; omega, by have := HN.out; have := hm3.out; omega, by omega, by omega, by have := HN.out; omega, .inr (by have := HN.out; have := hm3.out; omega), .inr rfl⟩, rfl⟩
    · go_wp2_with fail
      go_meet
      exact ⟨a, m, rfl, rfl, ⟨by omega, by omega, by omega, by omega, by have := hm3.out; omega, .inl rfl, .inl rfl⟩, rfl⟩
  case rest =>
    obtain ⟨lo, hi, rfl, rfl, HL, rfl⟩ := hcut
    have q5 : IntKind.i64.wrap ((n : Int) - 1) = (n : Int) - 1 := by rw [IntKind.wrap_i64]; have := HN.out; omega
    clear q0 q1 qb0 qb1 q2 q3 em q4
    go_wp2_with fail
    go_loopg [20, 21] (hi - lo) (fun kx s8 s9 wr => ∃ (s r : Nat), s8 = .int .i64 s ∧ s9 = .int .i64 r ∧ lo ≤ s ∧ s ≤ r ∧ r ≤ hi ∧ r - s ≤ kx ∧ Aside (SW enc w0 blk off d wr) ∧ Aside (s = lo ∨ ltOf cf d[n - s]! d[s - 1]! = false) ∧ Aside (r = hi ∨ ltOf cf d[n - 1 - r]! d[r]! = true))
    case atStart => exact ⟨lo, hi, rfl, rfl, by omega, by have := HL.out.h2; omega, by omega, by omega, S0, Or.inl rfl, Or.inl rfl⟩
    case round =>
      clear S0 q5
      obtain ⟨s, r, rfl, rfl, hls, hsr, hrh, hkx, S1, H1, H2⟩ := hrel
      by_cases hlt : (s : Int) < (r : Int)
      · have hL := HL.out
        have hn := HN.out
        obtain ⟨l1, l2, l3, l4, l5, l6, l7⟩ := hL
        have q2 : IntKind.u64.wrap ((s : Int) + (r : Int)) = (s : Int) + (r : Int) := by simp [IntKind.wrap, IntKind.bits, IntKind.signed]; omega
        have q3 : IntKind.i64.wrap ((s : Int) + (r : Int)) = (s : Int) + (r : Int) := by rw [IntKind.wrap_i64]; omega
        obtain ⟨h, hh⟩ : ∃ h : Nat, h = (s + r) / 2 := ⟨_, rfl⟩
        have eh : ((s : Int) + (r : Int)) / 2 = (h : Int) := by omega
        have hih : s ≤ h := by omega
        have hhj : h < r := by omega
        have q4 : IntKind.i64.wrap ((h : Int) + 1) = (h : Int) + 1 := by rw [IntKind.wrap_i64]; omega
        obtain ⟨k, hk⟩ : ∃ k : Nat, k = n - 1 - h := ⟨_, rfl⟩
        have HK : Aside (k = n - 1 - h) := hk
        have q6 : IntKind.i64.wrap ((n : Int) - 1 - (h : Int)) = (k : Int) := by rw [IntKind.wrap_i64]; omega
        have p1 : (0 : Int) ≤ (h : Int) := by omega
        have p2 : (h : Int) < (sz : Int) := by omega
        have p3 : (0 : Int) ≤ (k : Int) := by omega
        have p4 : (k : Int) < (sz : Int) := by omega
        have hds : d.size = sz := HZ.out
        have la := S1.out.cl R (by omega) k (by omega)
        have lb := S1.out.cl R (by omega) h (by omega)
        clear hh hk hn l1 l2 l3 l4 l5 l6 l7
        obtain ⟨x, hx⟩ : ∃ x, x = d[k]! := ⟨_, rfl⟩
        obtain ⟨y, hy⟩ : ∃ y, y = d[h]! := ⟨_, rfl⟩
        rw [← hx] at la
        rw [← hy] at lb
        have hc := S1.out.cmp HC.out (by omega) x y
        have HX : Aside (x = d[k]! ∧ y = d[h]!) := ⟨hx, hy⟩
        clear hx hy hds
        cases hv : ltOf cf x y with
        | false =>
          have hv1 : ¬ cf x y < 0 := of_decide_eq_false hv
          have hd1 : decide (cf x y < 0) = false := hv
          have HV : Aside (ltOf cf d[k]! d[h]! = false) := by show _ = _; rw [← HX.out.1, ← HX.out.2]; exact hv
          clear hv
          go_wp2_with fail
          go_quiet_grown (first | (go_at_fn g; refine Calls.grown_of (hc _ _)))
          have S2 : Aside (SW enc w0 blk off d (grow (wr.drewN nq) osq)) := S1.out.grown nq osq
          clear la lb hc S1 HX
          generalize grow (wr.drewN nq) osq = w2 at S2 ⊢
          clear nq osq
          go_wp2
          go_roundg (r - (h + 1))
          case measure => omega
          case rel =>
            have e1 : n - (h + 1) = k := by have := HK.out; omega
            exact ⟨h + 1, r, by simp, rfl, by omega, by omega, by omega, Nat.le_refl _, S2, Or.inr (by rw [Nat.add_sub_cancel, e1]; exact HV.out), H2⟩
        | true =>
          have hv1 : cf x y < 0 := of_decide_eq_true hv
          have hd1 : decide (cf x y < 0) = true := hv
          have HV : Aside (ltOf cf d[k]! d[h]! = true) := by show _ = _; rw [← HX.out.1, ← HX.out.2]; exact hv
          clear hv
          go_wp2_with fail
          go_quiet_grown (first | (go_at_fn g; refine Calls.grown_of (hc _ _)))
          have S2 : Aside (SW enc w0 blk off d (grow (wr.drewN nq) osq)) := S1.out.grown nq osq
          clear la lb hc S1 HX
          generalize grow (wr.drewN nq) osq = w2 at S2 ⊢
          clear nq osq
          go_wp2
          go_roundg (h - s)
          case measure => omega
          case rel =>
            have e1 : n - 1 - h = k := HK.out.symm
            exact ⟨s, h, rfl, by simp, by omega, by omega, by omega, Nat.le_refl _, S2, H1, Or.inr (by rw [e1]; exact HV.out)⟩
      · obtain rfl : s = r := by omega
        clear hlt
        obtain ⟨e, he⟩ : ∃ e : Nat, e = n - s := ⟨_, rfl⟩
        have HE : Aside (s ≤ m ∧ m ≤ e ∧ e ≤ b ∧ a ≤ s ∧ mid = s + (e - m) ∧ (s = a ∨ e = b ∨ ltOf cf d[e]! d[s - 1]! = false) ∧ (s = m ∨ e = m ∨ ltOf cf d[e - 1]! d[s]! = true)) := by
          obtain ⟨l1, l2, l3, l4, l5, l6, l7⟩ := HL.out
          have hn := HN.out
          refine ⟨by omega, by omega, by omega, by omega, by omega, ?_, ?_⟩
          · rcases H1.out with h5 | h5
            · rcases l6 with l6 | l6
              · exact .inl (by omega)
              · exact .inr (.inl (by omega))
            · rw [he]
              exact .inr (.inr h5)
          · rcases H2.out with h5 | h5
            · rcases l7 with l7 | l7
              · exact .inl (by omega)
              · exact .inr (.inl (by omega))
            · have e1 : e - 1 = n - 1 - s := by omega
              rw [e1]
              exact .inr (.inr h5)
        have q6 : IntKind.i64.wrap ((n : Int) - (s : Int)) = (e : Int) := by rw [IntKind.wrap_i64]; have := HE.out; have := HN.out; omega
        clear he
        go_upto_region 39 with fail
        go_cut [185] from 178 to 184 (fun v wx => ∃ q : Bool, v = .bool q ∧ Aside (q = true ↔ (s < m ∧ m < e)) ∧ Aside (SW enc w0 blk off d wx))
        case first =>
          by_cases k1 : (s : Int) < (m : Int)
          · by_cases k2 : (m : Int) < (e : Int)
            · go_wp2_with fail
              go_meet
              exact ⟨true, rfl, (⟨fun _ => ⟨by omega, by omega⟩, fun _ => rfl⟩ : _ ↔ _), S1⟩
            · go_wp2_with fail
              go_meet
              exact ⟨false, rfl, (⟨fun h => (by cases h), fun h => (by omega)⟩ : _ ↔ _), S1⟩
          · go_wp2_with fail
            go_meet
            exact ⟨false, rfl, (⟨fun h => (by cases h), fun h => (by omega)⟩ : _ ↔ _), S1⟩
        case rest =>
          clear S1
          obtain ⟨q, rfl, HQ, S1⟩ := hcut
          go_upto_if 185 with fail
          go_cut [186] from 187 to 191 (fun _ wx => ∃ d1, Aside (IsRot s m e a b d d1) ∧ Aside (SW enc w0 blk off d1 wx))
          case first =>
            cases q with
            | true =>
              have kk := HQ.out.1 rfl
              have HR := rot_any enc (.func (.func g) #[] cb) blk off cap sz s m e d0 d w0 _ R hs HZ.out S1.out kk.1 kk.2 (by have := HE.out; omega) hsz
              clear kk
              go_wp2_with fail
              refine HR.mono ?_
              rintro e2 w2 ⟨rfl, d1, hr1, hs1⟩
              have HR1 : Aside (IsRot s m e a b d d1) := hr1.wide (by have := HE.out; omega) (by have := HE.out; omega) (by rw [HZ.out]; exact hb)
              have HS1 : Aside (SW enc w0 blk off d1 w2) := hs1
              clear hr1 hs1 HR
              go_wp2_with fail
              go_meet
              exact ⟨d1, HR1, HS1⟩
            | false =>
              have HN2 : Aside (m ≤ s ∨ e ≤ m) := by
                rcases Nat.lt_or_ge s m with h5 | h5
                · rcases Nat.lt_or_ge m e with h6 | h6
                  · have := HQ.out.2 ⟨h5, h6⟩; cases this
                  · exact .inr h6
                · exact .inl h5
              go_wp2_with fail
              go_meet
              exact ⟨d, IsRot.same _ HN2.out (by have := HE.out; omega) (by have := HE.out; omega), S1⟩
          case rest =>
            clear S1 HQ
            obtain ⟨d1, HR1, S1⟩ := hcut
            have HH : Aside (Half (ltOf cf) pos t a s mid e b d1 ∧ d1.size = sz ∧ PermIn a b d d1) := by
              obtain ⟨x1, x2, x3, x4, x5, x6, x7⟩ := HE.out
              exact ⟨mrg3 hS HM.out.1 HM.out.2.1 HM.out.2.2 x4 x1 x2 x3 x5 x6 x7 HR1.out, by rw [HR1.out.size]; exact HZ.out, HR1.out.perm⟩
            clear HR1
            go_upto_region 41 with fail
            go_cut [199] from 192 to 198 (fun v wx => ∃ q : Bool, v = .bool q ∧ Aside (q = true ↔ (a < s ∧ s < mid)) ∧ Aside (SW enc w0 blk off d1 wx))
            case first =>
              by_cases k1 : (a : Int) < (s : Int)
              · by_cases k2 : (s : Int) < (mid : Int)
                · go_wp2_with fail
                  go_meet
                  exact ⟨true, rfl, (⟨fun _ => ⟨by omega, by omega⟩, fun _ => rfl⟩ : _ ↔ _), S1⟩
                · go_wp2_with fail
                  go_meet
                  exact ⟨false, rfl, (⟨fun h => (by cases h), fun h => (by omega)⟩ : _ ↔ _), S1⟩
              · go_wp2_with fail
                go_meet
                exact ⟨false, rfl, (⟨fun h => (by cases h), fun h => (by omega)⟩ : _ ↔ _), S1⟩
            case rest =>
              clear S1
              obtain ⟨q, rfl, HQ, S1⟩ := hcut
              go_upto_if 199 with fail
              go_cut [200] from 201 to 205 (fun _ wx => ∃ d2, Aside (Mrg (ltOf cf) pos a mid d1 d2) ∧ Aside (SW enc w0 blk off d2 wx))
              case first =>
                cases q with
                | true =>
                  have kk := HQ.out.1 rfl
                  have HR := IH.out a s mid t d1 _ (by omega) HH.out.2.1 S1.out kk.1 kk.2 (by omega) HH.out.1.s1 HH.out.1.s2 HH.out.1.t1
                  clear kk
                  go_wp2_with fail
                  refine HR.mono ?_
                  rintro e2 w2 ⟨rfl, d2, hr1, hs1⟩
                  have HR1 : Aside (Mrg (ltOf cf) pos a mid d1 d2) := hr1
                  have HS1 : Aside (SW enc w0 blk off d2 w2) := hs1
                  clear hr1 hs1 HR
                  go_wp2_with fail
                  go_meet
                  exact ⟨d2, HR1, HS1⟩
                | false =>
                  have HN2 : Aside (¬ (a < s ∧ s < mid)) := fun h5 => by have := HQ.out.2 h5; cases this
                  go_wp2_with fail
                  go_meet
                  exact ⟨d1, mrg_idle1 HH.out.1 HN2.out (by have := HE.out; omega) (by have := HE.out; omega), S1⟩
              case rest =>
                clear S1 HQ
                obtain ⟨d2, HM2, S1⟩ := hcut
                have HD2 : Aside (d2.size = sz) := HM2.out.1.1.trans HH.out.2.1
                have HEND : Aside (∀ d3, Mrg (ltOf cf) pos mid b d2 d3 → Mrg (ltOf cf) pos a b d d3) := fun d3 h3 => mrg_join HH.out.1 (by rw [HH.out.2.1]; exact hb) (by omega) (by omega) HH.out.2.2 HM2.out h3
                by_cases k1 : (mid : Int) < (e : Int)
                · by_cases k2 : (e : Int) < (b : Int)
                  · have HR := IH.out mid e b t d2 _ (by omega) HD2.out S1.out (by omega) (by omega) hb (sorted_out HH.out.1.s3 HM2.out.1 (.inr (Nat.le_refl _))) (sorted_out HH.out.1.s4 HM2.out.1 (.inr (by omega))) (thr_out HH.out.1.t2 HM2.out.1 (Nat.le_refl _) (by omega))
                    go_wp2_with fail
                    refine HR.mono ?_
                    rintro e2 w2 ⟨rfl, d3, hr1, hs1⟩
                    have HR1 : Aside (Mrg (ltOf cf) pos mid b d2 d3) := hr1
                    have HS1 : Aside (SW enc w0 blk off d3 w2) := hs1
                    clear hr1 hs1 HR
                    go_wp2_with fail
                    go_end0
                    exact ⟨rfl, d3, HEND.out d3 HR1.out, HS1.out⟩
                  · go_wp2_with fail
                    go_end0
                    exact ⟨rfl, d2, HEND.out d2 (mrg_idle2 HH.out.1 HM2.out.1 (by omega) (by have := HE.out; omega) (by have := HE.out; omega)), S1.out⟩
                · go_wp2_with fail
                  go_end0
                  exact ⟨rfl, d2, HEND.out d2 (mrg_idle2 HH.out.1 HM2.out.1 (by omega) (by have := HE.out; omega) (by have := HE.out; omega)), S1.out⟩
end Go.Proofs.Ytkahjibdmhaglaa.Ss
