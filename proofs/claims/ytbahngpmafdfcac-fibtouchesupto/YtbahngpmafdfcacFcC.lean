/- fibHangs at whatever memory answers true. -/
import Derived.Test.YtbahngpmafdfcacFcB
namespace Go.Proofs.Ytbahngpmafdfcac.Fb
open Go.ChangeShapes Go.WideShapes Go.ChangeAt Go.RowKit Go.Joins Go.Proofs.Ytbahngpmafdfcac.PM Go.Proofs.Ytbahngpmafdfcac.Ask
set_option linter.unusedVariables false

theorem made_zero (n : Nat) : (madeCells #[Value.int IntKind.u32 0] n).toList = wcs (List.replicate n 0) := by
  apply List.ext_getElem
  · simp [madeCells, wcs]
  · intro i h1 h2
    simp [madeCells, wcs, Nat.mod_one]
theorem Wds.take {w : World} {va : Option Addr} {os : List Int} (h : Wds w va os) (s : Nat) : Wds w va (os.take s) := by
  have hl : (os.take s).length ≤ os.length := by rw [List.length_take]; omega
  refine ⟨Nat.le_trans hl h.small, fun i hi => ?_, fun d hd => h.u32 d (List.mem_of_mem_take hd)⟩
  have hi' : i < os.length := by omega
  obtain ⟨b, o, e, hb, hc⟩ := h.cells i hi'
  exact ⟨b, o, e, hb, by rw [hc, List.getElem_take]⟩
theorem wd_get {ms : List Int} {j : Nat} (h : j < ms.length) : wd ms (j : Int) = ms[j] := by
  unfold wd; rw [List.getD_eq_getElem?_getD]; simp [h]
theorem In32_mod (z : Int) : In32 (z % 4294967296) := ⟨by omega, by show z % 4294967296 < _; omega⟩

set_option maxRecDepth 100000 in
set_option maxHeartbeats 4000000 in
theorem hangs_any (va : Option Addr) (cap : Nat) (ms : List Int) (L : Nat) (hL : ms.length = L) (hsz : (L + 40) * 4 ≤ 140737488355328) (a junk : Int) (a0 : 0 ≤ a) (a1 : a < 4294967296) (w : World) (h : Wds w va ms) (hva : ∀ b o, va = some ⟨b, o, none⟩ → b < w.heap.size) :
    Calls Try.prog 15 #[.slice va L cap, .int .u32 a, .int .u32 junk] w fun e w' => e = .returned (.bool true) ∧ Below w.heap.size w w' := by
  have H : Hid (Wds w va ms) := h
  have HL : Hid (ms.length = L) := hL
  have HU : Hid (∀ d ∈ ms, In32 d) := h.u32
  obtain ⟨T, hT⟩ : ∃ T, touchP ms a = T := ⟨_, rfl⟩
  have HT0 : Hid (touchP ms a = T) := hT
  have htc := touched_any va cap ms L hL a a0 a1 w h T hT hva
  have hfew : T.length ≤ 68 := by rw [← hT]; exact touch_few ms a
  have HP : Hid (T.Pairwise (· < ·)) := by show T.Pairwise _; rw [← hT]; exact (touch_rise ms a).1
  have HNN : Hid (∀ x ∈ T, 0 ≤ x) := fun x hx => dscT_nn ms h.u32 a 34 0 0 (by decide) x (((touch_rise ms a).2 x).1 (by rw [hT]; exact hx))
  obtain ⟨n, hn⟩ : ∃ n, T.length = n := ⟨_, rfl⟩
  have HN : Hid (T.length = n) := hn
  have HTC : Hid (Calls _ _ _ _ _) := htc
  rw [hn] at hfew
  clear h hL hT htc hn hva
  obtain ⟨i0, hi, hz0, hz1, hz2⟩ := info_parts infoU
  go_enter Try.func15, Try.ntmps15
  go_wp2_with fail
  refine HTC.out.mono ?_
  rintro e w1 ⟨gt, ct, rfl, hrow, hb1⟩
  have HH : Hid (HT w gt ct T w1) := ⟨hb1, hrow⟩
  rw [HN.out]
  have hn72 : ¬ (72 : Int) < n := by omega
  clear hrow hb1 HTC
  go_wp2_with fail
  go_loopw [24] (fun i wr => ∃ k : Nat, k ≤ n ∧ i = .int .i64 k ∧ HT w gt ct T wr) (fun i _ => n - (intOf i).toNat)
  case atStart => exact ⟨0, by omega, rfl, HH.out⟩
  case round =>
    obtain ⟨k, hk, rfl, hht⟩ := hrel
    have HK1 : Hid (HT w gt ct T wr) := hht
    clear HH
    by_cases hlt : k < n
    · have hkd : k < T.length := by rw [HN.out]; exact hlt
      have hkk : (k : Int) < n := by omega
      cases k with
      | zero =>
        clear hht
        go_wp2_with fail
        go_quiet (fail)
        have HRN : Hid (HT w gt ct T (wr.drewN nq)) := HK1.out.drewN nq
        go_wp2_with fail
        exact ⟨⟨1, by omega, by simp, HRN.out⟩, by simp [intOf]; omega⟩
      | succ j =>
        have c1 := hht.at j (by omega)
        have c2 := hht.at (j + 1) hkd
        have hlt2 := List.pairwise_iff_getElem.1 HP.out j (j + 1) (by omega) hkd (by omega)
        obtain ⟨y1, hy1⟩ : ∃ y, T[j] = y := ⟨_, rfl⟩
        obtain ⟨y2, hy2⟩ : ∃ y, T[j + 1] = y := ⟨_, rfl⟩
        rw [hy1] at c1 hlt2
        rw [hy2] at c2 hlt2
        have hlt3 : ¬ y2 ≤ y1 := by omega
        clear hht hy1 hy2
        go_wp2_with fail
        go_quiet (fail)
        have HRN : Hid (HT w gt ct T (wr.drewN nq)) := HK1.out.drewN nq
        go_wp2_with fail
        exact ⟨⟨j + 1 + 1, by omega, by simp, HRN.out⟩, by simp [intOf]; omega⟩
    · obtain rfl : n = k := by omega
      have hsz1 := hht.bel.size
      clear hht
      go_wp2_with (at_make; refine wpList_make_full _ rfl _ _ 23 rfl w.heap.size 30 i0 _ 1 Try.underlying23 hi hz0 hz1 _ _ _ _ (L + 40) rfl rfl (by simp) (by simp) (by rw [hz2]; omega) (by unfold maxLen; omega) hsz1 ?_)
      intro w2 hown2 hg2
      have HS2 : Hid (∃ os, HS w gt ct T wr.heap.size (L + 40) os w2) := by
        have hh := HK1.out
        have hgl := hh.tch.lt gt rfl
        have hb2 : Below wr.heap.size wr w2 := (Below.refl _ wr).grown hg2 (Nat.le_refl _) (fun _ e => by cases e)
        refine ⟨List.replicate (L + 40) 0, hh.next hb2, ⟨?_, fun d hd => ?_⟩, by simp, by omega⟩
        · rw [made_zero] at hown2
          simpa using hown2
        · rw [List.eq_of_mem_replicate hd]; exact ⟨by decide, by decide⟩
      obtain ⟨go, hgo⟩ : ∃ go, wr.heap.size = go := ⟨_, rfl⟩
      rw [hgo] at HS2 ⊢
      obtain ⟨M, hM⟩ : ∃ M, L + 40 = M := ⟨_, rfl⟩
      rw [hM] at HS2 ⊢
      have HM : Hid (L + 40 = M) := hM
      have hMs : M * 4 ≤ 140737488355328 := by omega
      have hLM : L ≤ M := by omega
      clear hown2 hg2 hsz1 HK1 hgo hM hsz
      go_wp2_with fail
      go_loopw [48] (fun i wr => ∃ k : Nat, k ≤ M ∧ i = .int .i64 k ∧ ∃ os, HS w gt ct T go M os wr) (fun i _ => M - (intOf i).toNat)
      case atStart => exact ⟨0, by omega, rfl, HS2.out⟩
      case round =>
        obtain ⟨j, hj, rfl, os, hhs⟩ := hrel
        have HHS : Hid (HS w gt ct T go M os wr) := hhs
        clear HS2
        by_cases hlt2 : j < M
        · obtain ⟨⟨y, hy⟩, hf⟩ := hhs.cell j hlt2
          have hjj : (j : Int) < M := by omega
          have jj0 : (0 : Int) ≤ j := by omega
          have HSN : Hid (∀ z, HS w gt ct T go M (os.set j (z % 4294967296)) (wr.setCell ⟨go, j, none⟩ (.int .u32 (z % 4294967296)))) := fun z => HHS.out.set j hlt2 _ (In32_mod z)
          clear hhs
          go_wp2_with fail
          exact ⟨⟨j + 1, by omega, by simp, _, HSN.out _⟩, by simp [intOf]; omega⟩
        · obtain rfl : M = j := by omega
          clear hhs
          go_wp2_with fail
          go_loopw [11, 62] (fun sv i wr => ∃ (k s : Nat) (os : List Int), k ≤ n ∧ i = .int .i64 k ∧ sv = .int .i64 s ∧ HK ms T os M k s ∧ HS w gt ct T go M os wr) (fun _ i _ => n - (intOf i).toNat)
          case atStart => exact ⟨0, 0, os, by omega, rfl, rfl, ⟨by omega, HHS.out.len, by simp, by simp⟩, HHS.out⟩
          case round =>
            obtain ⟨k, s, os, hk, rfl, rfl, hhk, hhs⟩ := hrel
            have HHK : Hid (HK ms T os M k s) := hhk
            have HHS : Hid (HS w gt ct T go M os wr) := hhs
            by_cases hlt3 : k < n
            · have hkd : k < T.length := by rw [HN.out]; exact hlt3
              have hkk : (k : Int) < n := by omega
              have kk0 : (0 : Int) ≤ k := by omega
              have c := hhs.ht.at k hkd
              have x0 := HNN.out _ (List.getElem_mem hkd)
              obtain ⟨jj, hjx⟩ : ∃ jj : Nat, T[k] = jj := ⟨T[k].toNat, by omega⟩
              rw [hjx] at c
              have HJX : Hid (T[k] = (jj : Int)) := hjx
              have jj0 : (0 : Int) ≤ jj := by omega
              by_cases hin : jj < M
              · obtain ⟨⟨y, hy⟩, hf⟩ := hhs.cell jj hin
                have hin' : (jj : Int) < M := by omega
                have hs1 := hhs.set jj hin 0 ⟨by decide, by decide⟩
                obtain ⟨-, hf1⟩ := hs1.cell jj hin
                have hc1 : (wr.setCell ⟨go, jj, none⟩ (.int .u32 0)).cell? ⟨go, jj, none⟩ = some (.int .u32 0) := World.cell?_setCell_same' _ _ _ (by rw [hy]; rfl)
                by_cases hjL : jj < L
                · have hjm : jj < ms.length := by rw [HL.out]; exact hjL
                  have hjL' : (jj : Int) < L := by omega
                  obtain ⟨b, o, rfl, -, cm⟩ := (H.out.bel hs1.ht.bel).cells jj hjm
                  have hv := HU.out _ (List.getElem_mem hjm)
                  obtain ⟨v, hvv⟩ : ∃ v, ms[jj] = v := ⟨_, rfl⟩
                  rw [hvv] at cm hv
                  have HKN : Hid (HK ms T (os.set jj v) M (k + 1) (jj + 1)) := hhk.put HP.out HNN.out hkd hjx hin (by rw [wd_get hjm, hvv])
                  have hs2 := hs1.set jj hin v hv
                  rw [List.set_set] at hs2
                  have HSN : Hid (HS w gt ct T go M (os.set jj v) _) := hs2
                  clear hhk hhs hs1 hs2 hjx hvv
                  go_wp2_with fail
                  exact ⟨⟨k + 1, jj + 1, _, by omega, by simp, by simp, HKN.out, HSN.out⟩, by simp [intOf]; omega⟩
                · have hjL' : ¬ (jj : Int) < L := by omega
                  have HKN : Hid (HK ms T (os.set jj 0) M (k + 1) (jj + 1)) := hhk.put HP.out HNN.out hkd hjx hin (by rw [wd_out ms _ (by rw [HL.out]; omega)])
                  have HSN : Hid (HS w gt ct T go M (os.set jj 0) _) := hs1
                  clear hhk hhs hs1 hjx
                  go_wp2_with fail
                  exact ⟨⟨k + 1, jj + 1, _, by omega, by simp, by simp, HKN.out, HSN.out⟩, by simp [intOf]; omega⟩
              · have hin' : ¬ (jj : Int) < M := by omega
                have HKN : Hid (HK ms T os M (k + 1) s) := hhk.skip hkd (by rw [hjx]; exact hin')
                clear hhk hhs hjx
                go_wp2_with fail
                exact ⟨⟨k + 1, s, _, by omega, by simp, by simp, HKN.out, HHS.out⟩, by simp [intOf]; omega⟩
            · obtain rfl : n = k := by omega
              have hhk' := hhk
              rw [← HN.out] at hhk'
              obtain ⟨f1, f2⟩ := hhk'.done HU.out HT0.out (by rw [HL.out]; exact hLM)
              obtain ⟨R, hR⟩ : ∃ R, findP ms a = R := ⟨_, rfl⟩
              rw [hR] at f1 f2
              have hsM := hhk.le
              have hol := hhs.len
              have HF0 : Hid (∀ W, Below w.heap.size w W → Calls Try.prog 13 #[.slice va L cap, .int .u32 a] W fun e w' => e = .returned (.int .i64 R) ∧ Below W.heap.size W w') := fun W hW => hR ▸ find_any va cap ms L HL.out a a0 a1 W (H.out.bel hW)
              have HF1 : Hid (∀ W, HS w gt ct T go M os W → Calls Try.prog 13 #[.slice (some ⟨go, 0, none⟩) M M, .int .u32 a] W fun e w' => e = .returned (.int .i64 R) ∧ Below W.heap.size W w') := fun W hW => f1 ▸ find_any (some ⟨go, 0, none⟩) M os M hol a a0 a1 W hW.own.wds
              have HF2 : Hid (∀ W, HS w gt ct T go M os W → Calls Try.prog 13 #[.slice (some ⟨go, 0, none⟩) s M, .int .u32 a] W fun e w' => e = .returned (.int .i64 R) ∧ Below W.heap.size W w') := fun W hW => f2 ▸ find_any (some ⟨go, 0, none⟩) M (os.take s) s (by simp; omega) a a0 a1 W (hW.own.wds.take s)
              have hs0 : (0 : Int) ≤ s := by omega
              have hs1 : (s : Int) ≤ M := by omega
              clear hhk hhk' hhs f1 f2 hR
              go_wp2_with fail
              refine (HF0.out wr HHS.out.ht.bel).mono ?_
              rintro e w3 ⟨rfl, hb3⟩
              have HS3 : Hid (HS w gt ct T go M os w3) := HHS.out.next hb3
              clear hb3
              go_wp2_with fail
              refine (HF1.out w3 HS3.out).mono ?_
              rintro e w4 ⟨rfl, hb4⟩
              have HS4 : Hid (HS w gt ct T go M os w4) := HS3.out.next hb4
              clear hb4
              go_wp2_with fail
              refine (HF2.out w4 HS4.out).mono ?_
              rintro e w5 ⟨rfl, hb5⟩
              have HS5 : Hid (HS w gt ct T go M os w5) := HS4.out.next hb5
              clear hb5
              go_wp2_with fail
              go_ret
              exact ⟨rfl, HS5.out.ht.bel⟩
end Go.Proofs.Ytbahngpmafdfcac.Fb
