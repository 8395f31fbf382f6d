/- pfxHolds: what it answers. -/
import Derived.Test.YtagfdmkgnedlbabDoorPcC
namespace Go.Proofs.YtagfdmkgnedlbabDoor.Pc
open Go.ChangeShapes Go.WideShapes Go.ChangeAt Go.RowKit Go.Joins Go.Proofs.YtagfdmkgnedlbabDoor.PM Go.Proofs.YtagfdmkgnedlbabDoor.Ask Go.Proofs.YtagfdmkgnedlbabDoor.Ge
set_option linter.unusedVariables false

set_option maxRecDepth 100000 in
set_option maxHeartbeats 4000000 in
theorem holds_any (va : Option Addr) (cap : Nat) (ps : List (Int × Int)) (n : Nat) (hn : ps.length = n) (x : Int) (x0 : 0 ≤ x) (x1 : x < 4294967296) (w : World) (hl : Lst E2 w va ps) (hp : ∀ p ∈ ps, InA p) (r : Bool) (hr : anyH ps x = r) :
    Calls Tryd.prog 10 #[.slice va n cap, .int .u32 x] w fun e w' => e = .returned (.bool r) ∧ Below w.heap.size w w' := by
  have HL : Hid (Lst E2 w va ps) := hl
  have HP : Hid (∀ p ∈ ps, InA p) := hp
  have HN : Hid (ps.length = n) := hn
  have HR : Hid (anyH ps x = r) := hr
  have h63 := hl.small
  rw [hn] at h63
  clear hl hp hn hr
  go_enter Tryd.func10, Tryd.ntmps10
  go_wp2_with fail
  go_loopw [9] (fun iv wr => ∃ i : Nat, i ≤ n ∧ iv = .int .i64 (i : Int) ∧ (∀ j (hj : j < ps.length), j < i → has ps[j].1 ps[j].2 x = false) ∧ Below w.heap.size w wr) (fun i _ => n - (intOf i).toNat)
  case atStart => exact ⟨0, by omega, rfl, fun j _ h => by omega, Below.refl _ _⟩
  case round =>
    obtain ⟨i, hi, rfl, hlow, hb⟩ := hrel
    have HLOW : Hid (∀ j (hj : j < ps.length), j < i → has ps[j].1 ps[j].2 x = false) := hlow
    have HB : Hid (Below w.heap.size w wr) := hb
    clear hlow hb
    by_cases hlt : i < n
    · have hil : i < ps.length := by rw [HN.out]; exact hlt
      obtain ⟨b, o, rfl, hbl, hc⟩ := (HL.out.bel HB.out).cells i hil
      have c0 : wr.cell? ⟨b, o + i * 2, none⟩ = some (.int .u32 ps[i].1) := hc 0 (by decide)
      have c1 : wr.cell? ⟨b, o + i * 2 + 1, none⟩ = some (.int .i64 ps[i].2) := hc 1 (by decide)
      have hin := HP.out _ (List.getElem_mem hil)
      obtain ⟨hb0, hhb⟩ : ∃ t, has ps[i].1 ps[i].2 x = t := ⟨_, rfl⟩
      have HH : Hid (has ps[i].1 ps[i].2 x = hb0) := hhb
      obtain ⟨⟨pa, pn⟩, hpp⟩ : ∃ p, ps[i] = p := ⟨_, rfl⟩
      rw [hpp] at c0 c1 hin hhb
      dsimp only at c0 c1 hhb
      obtain ⟨p0, p1⟩ := hin
      dsimp only at p0 p1
      have hii : (i : Int) < n := by omega
      have ii0 : (0 : Int) ≤ i := by omega
      have HBA : Hid (∀ o, Below w.heap.size w (wr.alloc o)) := fun o => HB.out.alloc HB.out.size o
      clear hc
      cases hb0 with
      | true =>
        have HE : Hid (r = true) := by
          show r = true
          rw [← HR.out, anyH_iff]
          exact ⟨ps[i], List.getElem_mem hil, HH.out⟩
        go_wp2_with fail
        refine (has_yes pa pn x hhb p0 p1 x0 x1 _).mono ?_
        rintro e w2 ⟨rfl, hb2⟩
        have HB2 : Hid (Below w.heap.size w w2) := (HBA.out _).trans (hb2.mono (HBA.out _).size)
        clear hb2
        go_wp2_with fail
        go_ret
        exact ⟨congrArg (fun b => Ending.returned (Value.bool b)) HE.out.symm, HB2.out⟩
      | false =>
        have HNX : Hid (∀ j (hj : j < ps.length), j < i + 1 → has ps[j].1 ps[j].2 x = false) := fun j hj h1 => by
          by_cases e : j = i
          · subst e; exact HH.out
          · exact HLOW.out j hj (by omega)
        go_wp2_with fail
        refine (has_no pa pn x hhb p0 p1 x0 x1 _).mono ?_
        rintro e w2 ⟨rfl, hb2⟩
        have HB2 : Hid (Below w.heap.size w w2) := (HBA.out _).trans (hb2.mono (HBA.out _).size)
        clear hb2
        go_wp2_with fail
        exact ⟨⟨i + 1, by omega, by simp, HNX.out, HB2.out⟩, by simp [intOf]; omega⟩
    · obtain rfl : i = n := by omega
      have HE : Hid (r = false) := by
        show r = false
        rw [← HR.out]
        cases e : anyH ps x with
        | false => rfl
        | true =>
          obtain ⟨p, hp, h1⟩ := anyH_iff.1 e
          obtain ⟨j, hj, rfl⟩ := List.getElem_of_mem hp
          rw [HLOW.out j hj (by rw [← HN.out]; exact hj)] at h1
          cases h1
      go_wp2_with fail
      go_ret
      exact ⟨congrArg (fun b => Ending.returned (Value.bool b)) HE.out.symm, HB.out⟩
end Go.Proofs.YtagfdmkgnedlbabDoor.Pc
