/- A message's body and its frame: bodyOf, framed. -/
import Derived.Test.YtanboekdfdafmaaPvL
import Derived.Deep.RegionHeld3
namespace Go.Proofs.Ytanboekdfdafmaa.Pv
open Go.ChangeShapes Go.WideShapes Go.ChangeAt Go.RowKit Go.Joins Go.Proofs.Ytanboekdfdafmaa.PM Go.Proofs.Ytanboekdfdafmaa.Ask Go.Proofs.Ytanboekdfdafmaa.Ge
set_option linter.unusedVariables false

set_option maxRecDepth 100000 in
set_option maxHeartbeats 8000000 in
theorem framed_any (kind : Nat) (hk : kind < 256) (a : Option Addr) (n cap : Nat) (xs : List Nat) (hn : n ≤ 60000) (w : World) (hp : Pc8 w a n cap xs) (hu : ∀ d ∈ xs, d < 256) :
    Calls Try.prog 36 #[.int .i64 (kind : Int), .slice a n cap] w fun e w' => ∃ v, e = .returned v ∧ OwnL E8 w.heap.size w' v (frame kind xs) ∧ Below w.heap.size w w' := by
  have HP : Hid (Pc8 w a n cap xs) := hp
  have HU : Hid (∀ d ∈ xs, d < 256) := hu
  obtain ⟨sm, hsm⟩ : ∃ r, ssum 65535 (kind :: xs) = r := ⟨_, rfl⟩
  have hsm1 : sm < 65536 := by
    rw [← hsm]
    refine ssum_lt _ _ (by decide) (fun d hd => ?_)
    rcases List.mem_cons.1 hd with e | e
    · omega
    · exact hu d e
  have HSM : Hid (ssum 65535 (kind :: xs) = sm) := hsm
  obtain ⟨sz, hsz⟩ : ∃ z, 9 + n = z := ⟨_, rfl⟩
  have HSZ : Hid (9 + n = sz) := hsz
  have w9 : (9 : Int) + (n : Int) = (sz : Int) := by omega
  have hsz6 : sz ≤ 60009 := by omega
  obtain ⟨i0, hi, hz0, hz1, hz2⟩ := info_of (show (Try.prog.info? 5).map (fun i => (i.zero, i.size, i.bytes)) = some (some (.int .u8 0), 1, 1) from E8.hi)
  clear hp hu hsm hsz
  go_enter Try.func36, Try.ntmps36
  go_wp2_with (at_make; refine wpList_make_own _ rfl _ _ 32 rfl w.heap.size 5 i0 _ 1 Try.underlying32 hi hz0 hz1 _ _ _ sz rfl rfl rfl (by rw [hz2]; omega) (by unfold maxLen; omega) (Nat.le_refl _) ?_)
  intro w3 hown hg
  have HO3 : Hid (OwnL E8 w.heap.size w3 (.slice (some ⟨w.heap.size, 0, none⟩) 0 sz) []) := ⟨hown⟩
  have HB3 : Hid (Below w.heap.size w w3) := (Below.refl _ w).grown hg (Nat.le_refl _) (fun k e => by cases e)
  clear hown hg hi hz0 hz1 hz2
  go_wp2_with fail
  go_loopw [6, 12] (fun bv iv wr => ∃ i : Nat, i ≤ 4 ∧ iv = .int .i64 (i : Int) ∧ OwnL E8 w.heap.size wr bv (List.replicate i 255) ∧ Below w.heap.size w wr) (fun _ i _ => 4 - (intOf i).toNat)
  case atStart => exact ⟨0, by omega, rfl, HO3.out, HB3.out⟩
  case round =>
    obtain ⟨i, hi, rfl, ho, hb⟩ := hrel
    have HO : Hid (OwnL E8 w.heap.size wr u6 (List.replicate i 255)) := ho
    have HB : Hid (Below w.heap.size w wr) := hb
    clear ho hb HO3 HB3
    by_cases hlt : i < 4
    · have hii : (i : Int) < 4 := by omega
      obtain ⟨W, hW⟩ : ∃ W, wr.alloc (Obj.cells #[.int .u8 255] 5) = W := ⟨_, rfl⟩
      have HWE : Hid (wr.alloc (Obj.cells (E8.enc 255).toArray E8.e) = W) := hW
      have hbl : Below wr.heap.size wr W := by rw [← hW]; exact (Below.refl _ wr).alloc (Nat.le_refl _) _
      have HWA : Hid (OwnL E8 w.heap.size W u6 (List.replicate i 255)) := HO.out.bel hbl
      have HBW : Hid (Below w.heap.size w W) := HB.out.trans (hbl.mono HB.out.size)
      have hby : (List.replicate i 255).length ≤ 1099511627775 := by simp; omega
      have HNX : Hid (List.replicate i 255 ++ [255] = List.replicate (i + 1) 255) := by show _ = _; rw [← List.replicate_succ']
      clear hbl
      go_wp2_with (at_builtin; refine list_app1 E8 rfl _ _ 32 rfl rfl w.heap.size u6 (List.replicate i 255) 255 hby (w := wr) W rfl HWA.out rfl HBW.out.size HWE.out.symm ?_)
      intro v' w' ho' hg' hat'
      have HO' : Hid (OwnL E8 w.heap.size w' v' (List.replicate (i + 1) 255)) := by have := ho'.out; rw [HNX.out] at this; exact this
      have HB' : Hid (Below w.heap.size w w') := HBW.out.grown hg'.out HBW.out.size (fun g e => (HWA.out.row.lt g e).1)
      clear ho' hg' hat'
      go_wp2_with fail
      exact ⟨⟨i + 1, by omega, by simp, HO'.out, HB'.out⟩, by simp [intOf]; omega⟩
    · obtain rfl : i = 4 := by omega
      have hii : ¬ (4 : Int) < 4 := by omega
      have HO4 : Hid (OwnL E8 w.heap.size wr u6 [255, 255, 255, 255]) := HO.out
      have hku : IntKind.u8.wrap (kind : Int) = (kind : Int) := by rw [IntKind.wrap_u8]; omega
      clear HO
      go_wp2_with fail
      refine (put_any w.heap.size u6 [255, 255, 255, 255] 2 sz (by decide) (by omega) (by simp) wr HB.out.size HO4.out).mono ?_
      rintro e w1 ⟨v1, rfl, ho1, hb1⟩
      have HO1 : Hid (OwnL E8 w.heap.size w1 v1 ([255, 255, 255, 255] ++ big 2 sz)) := ho1
      have HB1 : Hid (Below w.heap.size w w1) := HB.out.trans hb1
      clear ho1 hb1 HO4 HB
      go_wp2_with fail
      refine (put_any w.heap.size v1 ([255, 255, 255, 255] ++ big 2 sz) 1 kind (by decide) (by omega) (by rw [List.length_append, big_len]; simp) w1 HB1.out.size HO1.out).mono ?_
      rintro e w2 ⟨v2, rfl, ho2, hb2⟩
      have HO2 : Hid (OwnL E8 w.heap.size w2 v2 ([255, 255, 255, 255] ++ big 2 sz ++ big 1 kind)) := ho2
      have HB2 : Hid (Below w.heap.size w w2) := HB1.out.trans hb2
      clear ho2 hb2 HO1 HB1
      go_wp2_with fail
      refine (sumOf_any kind hk a cap xs n HP.out.len w2 (HP.out.bel HB2.out).l HU.out sm HSM.out).mono ?_
      rintro e w5 ⟨rfl, hw5⟩
      rw [hw5]
      clear hw5 w5
      go_wp2_with fail
      refine (put_any w.heap.size v2 ([255, 255, 255, 255] ++ big 2 sz ++ big 1 kind) 2 sm (by decide) (by omega) (by rw [List.length_append, List.length_append, big_len, big_len]; simp) w2 HB2.out.size HO2.out).mono ?_
      rintro e w4 ⟨v4, rfl, ho4, hb4⟩
      have HO4 : Hid (OwnL E8 w.heap.size w4 v4 ([255, 255, 255, 255] ++ big 2 sz ++ big 1 kind ++ big 2 sm)) := ho4
      have HB4 : Hid (Below w.heap.size w w4) := HB2.out.trans hb4
      have HP4 : Hid (Pc8 w4 a n cap xs) := HP.out.bel HB4.out
      have hl4 : ([255, 255, 255, 255] ++ big 2 sz ++ big 1 kind ++ big 2 sm).length + n ≤ 1099511627775 := by rw [List.length_append, List.length_append, List.length_append, big_len, big_len, big_len]; simp; omega
      obtain ⟨X, hX⟩ : ∃ X, [255, 255, 255, 255] ++ big 2 sz ++ big 1 kind ++ big 2 sm = X := ⟨_, rfl⟩
      rw [hX] at HO4 hl4
      have HXX : Hid (X ++ xs = frame kind xs) := by
        show _ = _
        unfold frame
        rw [← hX, HP4.out.len, HSZ.out, HSM.out]
      clear ho4 hb4 HO2 HB2 hX
      go_wp2_with (at_builtin; refine list_appL E8 rfl _ _ 32 rfl rfl w.heap.size v4 X xs a n cap w4 hl4 rfl HO4.out rfl HP4.out.l HP4.out.nil HP4.out.len HB4.out.size ?_)
      intro v6 w6 ho6 hg6 hat6
      have HO6 : Hid (OwnL E8 w.heap.size w6 v6 (frame kind xs)) := by rw [← HXX.out]; exact ho6.out
      have HB6 : Hid (Below w.heap.size w w6) := HB4.out.grown hg6.out HB4.out.size (fun g e => (HO4.out.row.lt g e).1)
      obtain ⟨va5, vc5, rfl, -⟩ := HO6.out.form
      obtain ⟨vl, hvl⟩ : ∃ q, (frame kind xs).length = q := ⟨_, rfl⟩
      rw [hvl] at HO6
      rw [hvl]
      clear hvl ho6 hg6 hat6 HO4 HP4 HXX
      go_wp2_with fail
      go_ret
      exact ⟨_, rfl, HO6.out, HB6.out⟩
end Go.Proofs.Ytanboekdfdafmaa.Pv
