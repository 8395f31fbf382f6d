/- descend with Find's function literal, and Find: what they answer. -/
import Derived.Test.YtjhdjbhpofhiaabFbA
namespace Go.Proofs.Ytjhdjbhpofhiaab.Fb
open Go.ChangeShapes Go.WideShapes Go.ChangeAt Go.RowKit Go.Proofs.Ytjhdjbhpofhiaab.PM Go.Proofs.Ytjhdjbhpofhiaab.Ask
set_option linter.unusedVariables false

/-- the bit of a behind its first n -/
def sdI (a n : Int) : Int := a * 2 ^ n.toNat % 4294967296 / 2147483648
theorem sdI_01 (a n : Int) : sdI a n = 0 ∨ sdI a n = 1 := by
  unfold sdI
  have h0 := Int.emod_nonneg (a * 2 ^ n.toNat) (show (4294967296 : Int) ≠ 0 by decide)
  have h1 := Int.emod_lt_of_pos (a * 2 ^ n.toNat) (show (0 : Int) < 4294967296 by decide)
  omega
set_option maxHeartbeats 400000 in
theorem after_any (x n : Int) (h0 : 0 ≤ n) (h1 : n ≤ 32) (hx : 0 ≤ x) (hx2 : x < 4294967296) (w : World) :
    Calls Try.prog 59 #[.int .u32 x, .int .i64 n] w fun e w' => e = .returned (.int .i64 (sdI x n)) ∧ w' = w := by
  go_enter Try.func59, Try.ntmps59
  go_wp2_with fail
  go_ret
  exact ⟨rfl, rfl⟩
theorem after_is (x n s : Int) (hs : sdI x n = s) (h0 : 0 ≤ n) (h1 : n ≤ 32) (hx : 0 ≤ x) (hx2 : x < 4294967296) (w : World) :
    Calls Try.prog 59 #[.int .u32 x, .int .i64 n] w fun e w' => e = .returned (.int .i64 s) ∧ w' = w := by
  rw [← hs]; exact after_any x n h0 h1 hx hx2 w

set_option maxHeartbeats 400000 in
theorem tell_find (i : Int) (w : World) : Calls Try.prog 49 #[.int .i64 i] w fun e w' => (∃ v, e = .returned v) ∧ w' = w := by
  go_enter Try.func49, Try.ntmps49
  go_wp2_with fail
  go_end0
  exact ⟨⟨_, rfl⟩, rfl⟩

set_option maxHeartbeats 400000 in
theorem read_find (bT bM : Nat) (a : Option Addr) (cap : Nat) (ms : List Int) (L : Nat) (hL : ms.length = L) (i : Int) (h0 : 0 ≤ i) (v : Int) (hv : wd ms i = v) (w : World) (h : Wds w a ms)
    (cT : w.cell? ⟨bT, 0, none⟩ = some (.func (.func 49) #[] #[])) (cM : w.cell? ⟨bM, 0, none⟩ = some (.slice a L cap)) :
    Calls Try.prog 70 #[.int .i64 i, .pointer (some ⟨bT, 0, none⟩), .pointer (some ⟨bM, 0, none⟩)] w fun e w' => e = .returned (.int .u32 v) ∧ w' = w := by
  have H : Hid (Wds w a ms) := h
  have HV : Hid (wd ms i = v) := hv
  have HL : Hid (ms.length = L) := hL
  clear h hv hL
  go_enter Try.func70, Try.ntmps70
  go_wp2_with fail
  refine (tell_find i w).mono ?_
  rintro e w1 ⟨⟨vv, rfl⟩, rfl⟩
  go_wp2_with fail
  refine (word_any a cap ms L HL.out i h0 v HV.out _ H.out).mono ?_
  rintro e w1 ⟨rfl, rfl⟩
  go_wp2_with fail
  go_ret
  exact ⟨rfl, rfl⟩

/-- where a memory leads an address -/
def dsc (ms : List Int) (a : Int) : Nat → Int → Int → Int → Int
  | 0, _, way, _ => way
  | f + 1, link, way, sure =>
    if wd ms link = 0 then way
    else if wd ms (wd ms link * 4) / 65536 < sure ∨ wd ms (wd ms link * 4) / 65536 > 32 then way
    else if wd ms (wd ms link * 4) / 65536 > sure ∧ has (wd ms (wd ms link * 4 + 1)) (wd ms (wd ms link * 4) / 65536) a = false then way
    else dsc ms a f (wd ms link * 4 + (2 + sdI a (wd ms (wd ms link * 4) / 65536))) (if wd ms (wd ms link * 4) % 65536 = 0 then way else wd ms (wd ms link * 4) % 65536) (wd ms (wd ms link * 4) / 65536 + 1)
def findP (ms : List Int) (a : Int) : Int := dsc ms a 34 0 0 0

/-- how the descent stands -/
structure DAt (w wA : World) (ms : List Int) (a R : Int) (link way sure : Int) (wr : World) : Prop where
  bel : Below wA.heap.size wA wr
  l0 : 0 ≤ link
  s0 : 0 ≤ sure
  s1 : sure ≤ 33
  run : ∃ f : Nat, dsc ms a f link way sure = R ∧ 34 ≤ (f : Int) + sure

theorem DAt.fuel {w wA : World} {ms : List Int} {a R link way sure : Int} {wr : World} (h : DAt w wA ms a R link way sure wr) : ∃ f : Nat, dsc ms a (f + 1) link way sure = R ∧ 34 ≤ ((f + 1 : Nat) : Int) + sure := by
  obtain ⟨f, h1, h2⟩ := h.run
  cases f with
  | zero => have := h.s1; simp at h2; omega
  | succ f => exact ⟨f, h1, h2⟩
theorem DAt.end1 {w wA : World} {ms : List Int} {a R link way sure : Int} {wr : World} (h : DAt w wA ms a R link way sure wr) (hn : wd ms link = 0) : R = way := by
  obtain ⟨f, h1, -⟩ := h.fuel
  rw [← h1]; unfold dsc; rw [if_pos hn]
theorem DAt.end2 {w wA : World} {ms : List Int} {a R link way sure : Int} {wr : World} (h : DAt w wA ms a R link way sure wr) {n hd len : Int} (hn : wd ms link = n) (h0 : n ≠ 0) (hh : wd ms (n * 4) = hd) (hl : hd / 65536 = len) (hc : len < sure ∨ len > 32) : R = way := by
  obtain ⟨f, h1, -⟩ := h.fuel
  subst hn hh hl
  rw [← h1]; unfold dsc; rw [if_neg h0, if_pos hc]
theorem DAt.end3 {w wA : World} {ms : List Int} {a R link way sure : Int} {wr : World} (h : DAt w wA ms a R link way sure wr) {n hd len : Int} (hn : wd ms link = n) (h0 : n ≠ 0) (hh : wd ms (n * 4) = hd) (hl : hd / 65536 = len) (h1 : ¬ len < sure) (h2 : ¬ len > 32) (h3 : len > sure) (h4 : has (wd ms (n * 4 + 1)) len a = false) : R = way := by
  obtain ⟨f, e, -⟩ := h.fuel
  subst hn hh hl
  rw [← e]; unfold dsc; rw [if_neg h0, if_neg (fun h => h.elim h1 h2), if_pos ⟨h3, h4⟩]
theorem DAt.next {w wA : World} {ms : List Int} {a R link way sure : Int} {wr wr' : World} (h : DAt w wA ms a R link way sure wr) (hb : Below wr.heap.size wr wr') {n hd len own s : Int} (hn : wd ms link = n) (h0 : n ≠ 0) (hn0 : 0 ≤ n) (hh : wd ms (n * 4) = hd) (hl : hd / 65536 = len) (ho : hd % 65536 = own) (h1 : ¬ len < sure) (h2 : ¬ len > 32)
    (h3 : len > sure → has (wd ms (n * 4 + 1)) len a = true) (hs : sdI a len = s) (way' : Int) (hw : way' = if own = 0 then way else own) : DAt w wA ms a R (n * 4 + (2 + s)) way' (len + 1) wr' := by
  obtain ⟨f, e, hf⟩ := h.fuel
  have hs0 := h.s0
  have h01 := sdI_01 a len
  rw [hs] at h01
  refine ⟨h.bel.trans (hb.mono h.bel.size), by omega, by omega, by omega, f, ?_, by push_cast at hf; omega⟩
  subst hn hh hl ho hs hw
  have hA : ¬ (wd ms (wd ms link * 4) / 65536 < sure ∨ wd ms (wd ms link * 4) / 65536 > 32) := fun h => h.elim h1 h2
  have hB : ¬ (wd ms (wd ms link * 4) / 65536 > sure ∧ has (wd ms (wd ms link * 4 + 1)) (wd ms (wd ms link * 4) / 65536) a = false) := fun h => by rw [h3 h.1] at h; exact absurd h.2 (by decide)
  rw [← e]
  conv => rhs; unfold dsc
  rw [if_neg h0, if_neg hA, if_neg hB]

structure DBox (s : Nat) (a : Option Addr) (L cap : Nat) (W : World) : Prop where
  m : W.cell? ⟨s, 0, none⟩ = some (.slice a L cap)
  t : W.cell? ⟨s + 1, 0, none⟩ = some (.func (.func 49) #[] #[])
theorem DBox.bel {s : Nat} {a : Option Addr} {L cap : Nat} {W W' : World} (h : DBox s a L cap W) (hb : Below W.heap.size W W') : DBox s a L cap W' := ⟨cell_bel h.m hb, cell_bel h.t hb⟩

set_option maxRecDepth 100000 in
set_option maxHeartbeats 4000000 in
theorem descend_find (va : Option Addr) (cap : Nat) (ms : List Int) (L : Nat) (hL : ms.length = L) (a : Int) (a0 : 0 ≤ a) (a1 : a < 4294967296) (R : Int) (hR : findP ms a = R) (w : World) (h : Wds w va ms) :
    Calls Try.prog 48 #[.slice va L cap, .int .u32 a, .func (.func 49) #[] #[]] w fun e w' => e = .returned (.int .i64 R) ∧ Below w.heap.size w w' := by
  have H : Hid (Wds w va ms) := h
  have HR : Hid (findP ms a = R) := hR
  have HL : Hid (ms.length = L) := hL
  clear h hR hL
  go_enter Try.func48, Try.ntmps48
  go_wp2_with fail
  obtain ⟨wA, hwA⟩ : ∃ wA, (w.alloc (Obj.cells #[.slice va L cap] 99)).alloc (Obj.cells #[.func (.func 49) #[] #[]] 106) = wA := ⟨_, rfl⟩
  have hbA : Below w.heap.size w wA := by rw [← hwA]; exact ((Below.refl _ w).alloc (Nat.le_refl _) _).alloc (by simp) _
  have hsA : wA.heap.size = w.heap.size + 2 := by rw [← hwA]; simp
  have HBX : Hid (DBox w.heap.size va L cap wA) := by
    have g1 := World.alloc_heap_new w (Obj.cells #[.slice va L cap] 99)
    have g2 := World.alloc_heap_new (w.alloc (Obj.cells #[.slice va L cap] 99)) (Obj.cells #[.func (.func 49) #[] #[]] 106)
    rw [World.size_alloc] at g2
    have g1' := (Below.heap_alloc (w.alloc (Obj.cells #[.slice va L cap] 99)) (Obj.cells #[.func (.func 49) #[] #[]] 106) w.heap.size (by simp)).trans g1
    rw [hwA] at g1' g2
    exact ⟨by simp [World.cell?, g1'], by simp [World.cell?, g2]⟩
  rw [hwA]
  clear hwA
  go_loopw [8, 9, 10] (fun wy su li wr => ∃ way sure link : Int, wy = .int .i64 way ∧ su = .int .i64 sure ∧ li = .int .i64 link ∧ DAt w wA ms a R link way sure wr) (fun _ su _ _ => (34 - intOf su).toNat)
  case atStart => exact ⟨0, 0, 0, rfl, rfl, rfl, Below.refl _ _, by omega, by omega, by omega, 34, HR.out, by omega⟩
  case round =>
    obtain ⟨way, sure, link, rfl, rfl, rfl, hat⟩ := hrel
    have HAT : Hid (DAt w wA ms a R link way sure wr) := hat
    have l0 := hat.l0
    have s0 := hat.s0
    have s1 := hat.s1
    have hbwr : Below w.heap.size w wr := hbA.trans (hat.bel.mono hbA.size)
    have hbx : DBox w.heap.size va L cap wr := HBX.out.bel hat.bel
    have HW : Hid (Wds wr va ms) := H.out.bel hbwr
    clear hat
    obtain ⟨n, hn⟩ : ∃ n, wd ms link = n := ⟨_, rfl⟩
    have hnI : In32 n := hn ▸ wd_in H.out.u32 link
    have HN : Hid (wd ms link = n) := hn
    clear hn
    have n0 : 0 ≤ n := hnI.1
    have n1 : n < 4294967296 := hnI.2
    obtain ⟨hd, hhd⟩ : ∃ hd, wd ms (n * 4) = hd := ⟨_, rfl⟩
    have hdI : In32 hd := hhd ▸ wd_in H.out.u32 _
    have HHD' : Hid (wd ms (n * 4) = hd) := hhd
    clear hhd
    obtain ⟨h0, h1⟩ := hdI
    obtain ⟨len, hlen⟩ : ∃ len, hd / 65536 = len := ⟨_, rfl⟩
    obtain ⟨own, hown⟩ : ∃ own, hd % 65536 = own := ⟨_, rfl⟩
    have len0 : 0 ≤ len := by omega
    have len1 : len ≤ 65535 := by omega
    have own0 : 0 ≤ own := by omega
    have own1 : own ≤ 65535 := by omega
    have HLEN : Hid (hd / 65536 = len) := hlen
    have HOWN : Hid (hd % 65536 = own) := hown
    have HPARTS : Hid (∀ W, Calls Try.prog 71 #[.int .u32 hd] W fun e w' => e = .returned (.tuple #[.int .i64 len, .int .i64 own]) ∧ w' = W) := fun W => by
      have := parts_any hd h0 h1 W; rw [HLEN.out, HOWN.out] at this; exact this
    clear hlen hown
    by_cases hz : n = 0
    · subst hz
      obtain rfl : R = way := HAT.out.end1 HN.out
      go_wp2_with fail
      refine (read_find (w.heap.size + 1) w.heap.size va cap ms L HL.out (link) (by omega) 0 HN.out _ HW.out hbx.t hbx.m).mono ?_
      rintro e w1 ⟨rfl, rfl⟩
      go_wp2_with fail
      go_ret
      exact ⟨rfl, hbwr⟩
    · have hzn : ¬ n = 0 := hz
      by_cases hc1 : len < sure
      · obtain rfl : R = way := HAT.out.end2 HN.out hz HHD'.out HLEN.out (.inl hc1)
        go_wp2_with fail
        refine (read_find (w.heap.size + 1) w.heap.size va cap ms L HL.out (link) (by omega) n HN.out _ HW.out hbx.t hbx.m).mono ?_
        rintro e w1 ⟨rfl, rfl⟩
        go_wp2_with fail
        refine (place_any n 0 n0 n1 (by decide) (by decide) _).mono ?_
        rintro e w1 ⟨rfl, rfl⟩
        go_wp2_with fail
        refine (read_find (w.heap.size + 1) w.heap.size va cap ms L HL.out (n * 4) (by omega) hd HHD'.out _ HW.out hbx.t hbx.m).mono ?_
        rintro e w1 ⟨rfl, rfl⟩
        go_wp2_with fail
        refine (HPARTS.out _).mono ?_
        rintro e w1 ⟨rfl, rfl⟩
        go_wp2_with fail
        go_ret
        exact ⟨rfl, hbwr⟩
      · by_cases hc2 : len > 32
        · obtain rfl : R = way := HAT.out.end2 HN.out hz HHD'.out HLEN.out (.inr hc2)
          go_wp2_with fail
          refine (read_find (w.heap.size + 1) w.heap.size va cap ms L HL.out (link) (by omega) n HN.out _ HW.out hbx.t hbx.m).mono ?_
          rintro e w1 ⟨rfl, rfl⟩
          go_wp2_with fail
          refine (place_any n 0 n0 n1 (by decide) (by decide) _).mono ?_
          rintro e w1 ⟨rfl, rfl⟩
          go_wp2_with fail
          refine (read_find (w.heap.size + 1) w.heap.size va cap ms L HL.out (n * 4) (by omega) hd HHD'.out _ HW.out hbx.t hbx.m).mono ?_
          rintro e w1 ⟨rfl, rfl⟩
          go_wp2_with fail
          refine (HPARTS.out _).mono ?_
          rintro e w1 ⟨rfl, rfl⟩
          go_wp2_with fail
          go_ret
          exact ⟨rfl, hbwr⟩
        · by_cases hc3 : len > sure
          · obtain ⟨ad, had⟩ : ∃ ad, wd ms (n * 4 + 1) = ad := ⟨_, rfl⟩
            have hadI : In32 ad := had ▸ wd_in H.out.u32 _
            have HAD : Hid (wd ms (n * 4 + 1) = ad) := had
            clear had
            obtain ⟨ad0, ad1⟩ := hadI
            cases hh : has ad len a with
            | false =>
              have HH : Hid (has ad len a = false) := hh
              clear hh
              obtain rfl : R = way := HAT.out.end3 HN.out hz HHD'.out HLEN.out hc1 hc2 hc3 (by rw [HAD.out]; exact HH.out)
              go_wp2_with fail
              refine (read_find (w.heap.size + 1) w.heap.size va cap ms L HL.out (link) (by omega) n HN.out _ HW.out hbx.t hbx.m).mono ?_
              rintro e w1 ⟨rfl, rfl⟩
              go_wp2_with fail
              refine (place_any n 0 n0 n1 (by decide) (by decide) _).mono ?_
              rintro e w1 ⟨rfl, rfl⟩
              go_wp2_with fail
              refine (read_find (w.heap.size + 1) w.heap.size va cap ms L HL.out (n * 4) (by omega) hd HHD'.out _ HW.out hbx.t hbx.m).mono ?_
              rintro e w1 ⟨rfl, rfl⟩
              go_wp2_with fail
              refine (HPARTS.out _).mono ?_
              rintro e w1 ⟨rfl, rfl⟩
              go_wp2_with fail
              refine (place_any n 1 n0 n1 (by decide) (by decide) _).mono ?_
              rintro e w1 ⟨rfl, rfl⟩
              go_wp2_with fail
              refine (read_find (w.heap.size + 1) w.heap.size va cap ms L HL.out (n * 4 + 1) (by omega) ad HAD.out _ HW.out hbx.t hbx.m).mono ?_
              rintro e w1 ⟨rfl, rfl⟩
              go_wp2_with fail
              refine (has_no ad len a HH.out ad0 ad1 a0 a1 _).mono ?_
              rintro e w5 ⟨rfl, hb5⟩
              go_wp2_with fail
              go_ret
              exact ⟨rfl, hbwr.trans (hb5.mono hbwr.size)⟩
            | true =>
              have HH : Hid (has ad len a = true) := hh
              clear hh
              by_cases hown0 : own = 0
              · subst hown0
                go_wp2_with fail
                refine (read_find (w.heap.size + 1) w.heap.size va cap ms L HL.out (link) (by omega) n HN.out _ HW.out hbx.t hbx.m).mono ?_
                rintro e w1 ⟨rfl, rfl⟩
                go_wp2_with fail
                refine (place_any n 0 n0 n1 (by decide) (by decide) _).mono ?_
                rintro e w1 ⟨rfl, rfl⟩
                go_wp2_with fail
                refine (read_find (w.heap.size + 1) w.heap.size va cap ms L HL.out (n * 4) (by omega) hd HHD'.out _ HW.out hbx.t hbx.m).mono ?_
                rintro e w1 ⟨rfl, rfl⟩
                go_wp2_with fail
                refine (HPARTS.out _).mono ?_
                rintro e w1 ⟨rfl, rfl⟩
                go_wp2_with fail
                refine (place_any n 1 n0 n1 (by decide) (by decide) _).mono ?_
                rintro e w1 ⟨rfl, rfl⟩
                go_wp2_with fail
                refine (read_find (w.heap.size + 1) w.heap.size va cap ms L HL.out (n * 4 + 1) (by omega) ad HAD.out _ HW.out hbx.t hbx.m).mono ?_
                rintro e w1 ⟨rfl, rfl⟩
                go_wp2_with fail
                refine (has_yes ad len a HH.out ad0 ad1 a0 a1 _).mono ?_
                rintro e w5 ⟨rfl, hb5⟩
                go_wp2_with fail
                obtain ⟨sd, hsd⟩ : ∃ sd, sdI a len = sd := ⟨_, rfl⟩
                have h01 := sdI_01 a len
                rw [hsd] at h01
                have HSD : Hid (sdI a len = sd) := hsd
                have sd0 : 0 ≤ sd := by omega
                have sd1 : sd ≤ 1 := by omega
                clear hsd
                refine (after_is a len sd HSD.out len0 (by omega) a0 a1 _).mono ?_
                rintro e w1 ⟨rfl, rfl⟩
                go_wp2_with fail
                refine (place_any n (2 + sd) n0 n1 (by omega) (by omega) _).mono ?_
                rintro e w1 ⟨rfl, rfl⟩
                go_wp2_with fail
                go_roundw
                case rel => exact ⟨_, len + 1, n * 4 + (2 + sd), rfl, rfl, rfl, HAT.out.next hb5 HN.out hz n0 HHD'.out HLEN.out HOWN.out (by omega) (by omega) (fun _ => by rw [HAD.out]; exact HH.out) HSD.out _ (by rw [if_pos rfl])⟩
                case measure => simp [intOf]; omega
              · go_wp2_with fail
                refine (read_find (w.heap.size + 1) w.heap.size va cap ms L HL.out (link) (by omega) n HN.out _ HW.out hbx.t hbx.m).mono ?_
                rintro e w1 ⟨rfl, rfl⟩
                go_wp2_with fail
                refine (place_any n 0 n0 n1 (by decide) (by decide) _).mono ?_
                rintro e w1 ⟨rfl, rfl⟩
                go_wp2_with fail
                refine (read_find (w.heap.size + 1) w.heap.size va cap ms L HL.out (n * 4) (by omega) hd HHD'.out _ HW.out hbx.t hbx.m).mono ?_
                rintro e w1 ⟨rfl, rfl⟩
                go_wp2_with fail
                refine (HPARTS.out _).mono ?_
                rintro e w1 ⟨rfl, rfl⟩
                go_wp2_with fail
                refine (place_any n 1 n0 n1 (by decide) (by decide) _).mono ?_
                rintro e w1 ⟨rfl, rfl⟩
                go_wp2_with fail
                refine (read_find (w.heap.size + 1) w.heap.size va cap ms L HL.out (n * 4 + 1) (by omega) ad HAD.out _ HW.out hbx.t hbx.m).mono ?_
                rintro e w1 ⟨rfl, rfl⟩
                go_wp2_with fail
                refine (has_yes ad len a HH.out ad0 ad1 a0 a1 _).mono ?_
                rintro e w5 ⟨rfl, hb5⟩
                go_wp2_with fail
                obtain ⟨sd, hsd⟩ : ∃ sd, sdI a len = sd := ⟨_, rfl⟩
                have h01 := sdI_01 a len
                rw [hsd] at h01
                have HSD : Hid (sdI a len = sd) := hsd
                have sd0 : 0 ≤ sd := by omega
                have sd1 : sd ≤ 1 := by omega
                clear hsd
                refine (after_is a len sd HSD.out len0 (by omega) a0 a1 _).mono ?_
                rintro e w1 ⟨rfl, rfl⟩
                go_wp2_with fail
                refine (place_any n (2 + sd) n0 n1 (by omega) (by omega) _).mono ?_
                rintro e w1 ⟨rfl, rfl⟩
                go_wp2_with fail
                go_roundw
                case rel => exact ⟨_, len + 1, n * 4 + (2 + sd), rfl, rfl, rfl, HAT.out.next hb5 HN.out hz n0 HHD'.out HLEN.out HOWN.out (by omega) (by omega) (fun _ => by rw [HAD.out]; exact HH.out) HSD.out _ (by rw [if_neg hown0])⟩
                case measure => simp [intOf]; omega
          · by_cases hown0 : own = 0
            · subst hown0
              go_wp2_with fail
              refine (read_find (w.heap.size + 1) w.heap.size va cap ms L HL.out (link) (by omega) n HN.out _ HW.out hbx.t hbx.m).mono ?_
              rintro e w1 ⟨rfl, rfl⟩
              go_wp2_with fail
              refine (place_any n 0 n0 n1 (by decide) (by decide) _).mono ?_
              rintro e w1 ⟨rfl, rfl⟩
              go_wp2_with fail
              refine (read_find (w.heap.size + 1) w.heap.size va cap ms L HL.out (n * 4) (by omega) hd HHD'.out _ HW.out hbx.t hbx.m).mono ?_
              rintro e w1 ⟨rfl, rfl⟩
              go_wp2_with fail
              refine (HPARTS.out _).mono ?_
              rintro e w1 ⟨rfl, rfl⟩
              go_wp2_with fail
              obtain ⟨sd, hsd⟩ : ∃ sd, sdI a len = sd := ⟨_, rfl⟩
              have h01 := sdI_01 a len
              rw [hsd] at h01
              have HSD : Hid (sdI a len = sd) := hsd
              have sd0 : 0 ≤ sd := by omega
              have sd1 : sd ≤ 1 := by omega
              clear hsd
              refine (after_is a len sd HSD.out len0 (by omega) a0 a1 _).mono ?_
              rintro e w1 ⟨rfl, rfl⟩
              go_wp2_with fail
              refine (place_any n (2 + sd) n0 n1 (by omega) (by omega) _).mono ?_
              rintro e w1 ⟨rfl, rfl⟩
              go_wp2_with fail
              go_roundw
              case rel => exact ⟨_, len + 1, n * 4 + (2 + sd), rfl, rfl, rfl, HAT.out.next (Below.refl _ _) HN.out hz n0 HHD'.out HLEN.out HOWN.out (by omega) (by omega) (fun h => absurd h (by omega)) HSD.out _ (by rw [if_pos rfl])⟩
              case measure => simp [intOf]; omega
            · go_wp2_with fail
              refine (read_find (w.heap.size + 1) w.heap.size va cap ms L HL.out (link) (by omega) n HN.out _ HW.out hbx.t hbx.m).mono ?_
              rintro e w1 ⟨rfl, rfl⟩
              go_wp2_with fail
              refine (place_any n 0 n0 n1 (by decide) (by decide) _).mono ?_
              rintro e w1 ⟨rfl, rfl⟩
              go_wp2_with fail
              refine (read_find (w.heap.size + 1) w.heap.size va cap ms L HL.out (n * 4) (by omega) hd HHD'.out _ HW.out hbx.t hbx.m).mono ?_
              rintro e w1 ⟨rfl, rfl⟩
              go_wp2_with fail
              refine (HPARTS.out _).mono ?_
              rintro e w1 ⟨rfl, rfl⟩
              go_wp2_with fail
              obtain ⟨sd, hsd⟩ : ∃ sd, sdI a len = sd := ⟨_, rfl⟩
              have h01 := sdI_01 a len
              rw [hsd] at h01
              have HSD : Hid (sdI a len = sd) := hsd
              have sd0 : 0 ≤ sd := by omega
              have sd1 : sd ≤ 1 := by omega
              clear hsd
              refine (after_is a len sd HSD.out len0 (by omega) a0 a1 _).mono ?_
              rintro e w1 ⟨rfl, rfl⟩
              go_wp2_with fail
              refine (place_any n (2 + sd) n0 n1 (by omega) (by omega) _).mono ?_
              rintro e w1 ⟨rfl, rfl⟩
              go_wp2_with fail
              go_roundw
              case rel => exact ⟨_, len + 1, n * 4 + (2 + sd), rfl, rfl, rfl, HAT.out.next (Below.refl _ _) HN.out hz n0 HHD'.out HLEN.out HOWN.out (by omega) (by omega) (fun h => absurd h (by omega)) HSD.out _ (by rw [if_neg hown0])⟩
              case measure => simp [intOf]; omega
set_option maxHeartbeats 1000000 in
/-- Find, at whatever memory -/
theorem find_any (va : Option Addr) (cap : Nat) (ms : List Int) (L : Nat) (hL : ms.length = L) (a : Int) (a0 : 0 ≤ a) (a1 : a < 4294967296) (w : World) (h : Wds w va ms) :
    Calls Try.prog 22 #[.slice va L cap, .int .u32 a] w fun e w' => e = .returned (.int .i64 (findP ms a)) ∧ Below w.heap.size w w' := by
  obtain ⟨R, hR⟩ : ∃ R, findP ms a = R := ⟨_, rfl⟩
  rw [hR]
  have H : Hid (Wds w va ms) := h
  have HR : Hid (findP ms a = R) := hR
  have HL : Hid (ms.length = L) := hL
  clear h hR hL
  go_enter Try.func22, Try.ntmps22
  go_wp2_with fail
  refine (descend_find va cap ms L HL.out a a0 a1 R HR.out w H.out).mono ?_
  rintro e w1 ⟨rfl, hb⟩
  go_wp2_with fail
  go_ret
  exact ⟨rfl, hb⟩
end Go.Proofs.Ytjhdjbhpofhiaab.Fb
