/- seek: where a prefix's node lies or would lie. -/
import Derived.Test.YtjhdjbhpofhiaabFbG
import Derived.Test.YtjhdjbhpofhiaabFbB
import Derived.Test.YtjhdjbhpofhiaabAsk4
import Derived.Deep.RegionHeld3
namespace Go.Proofs.Ytjhdjbhpofhiaab.Fb
open Go.ChangeShapes Go.WideShapes Go.ChangeAt Go.RowKit Go.Joins Go.Proofs.Ytjhdjbhpofhiaab.PM Go.Proofs.Ytjhdjbhpofhiaab.Ask
set_option linter.unusedVariables false

/-- does one who seeks stop at a link -/
def skStop (ms : List Int) (ad len l : Int) : Prop := wd ms l = 0 ∨ len ≤ wd ms (wd ms l * 4) / 65536 ∨ cov (wd ms (wd ms l * 4 + 1)) (wd ms (wd ms l * 4) / 65536) ad len = false
instance (ms : List Int) (ad len l : Int) : Decidable (skStop ms ad len l) := by unfold skStop; infer_instance
/-- the next link -/
def skNext (ms : List Int) (ad l : Int) : Int := wd ms l * 4 + (2 + sdI ad (wd ms (wd ms l * 4) / 65536))
def skP (ms : List Int) (ad len : Int) : Nat → Int → Int → Option (Int × Int)
  | 0, _, _ => none
  | f + 1, l, ab => if skStop ms ad len l then some (l, ab) else skP ms ad len f (skNext ms ad l) l
def skN (ms : List Int) (ad len : Int) : Nat → Int → Nat
  | 0, _ => 0
  | f + 1, l => if skStop ms ad len l then 0 else skN ms ad len f (skNext ms ad l) + 1
theorem skN_eq {ms : List Int} {ad len : Int} : ∀ {f g : Nat} {l ab : Int} {R : Int × Int}, skP ms ad len f l ab = some R → f ≤ g → skN ms ad len g l = skN ms ad len f l
  | 0, _, _, _, _, h, _ => by cases h
  | f + 1, 0, _, _, _, _, h => absurd h (by omega)
  | f + 1, g + 1, l, ab, R, h, hg => by
    unfold skN
    unfold skP at h
    split
    · rfl
    · rename_i hs
      rw [if_neg hs] at h
      rw [skN_eq h (by omega)]

theorem skP_stop {ms : List Int} {ad len : Int} {f : Nat} {l ab : Int} {R : Int × Int} (h : skP ms ad len f l ab = some R) (hs : skStop ms ad len l) : R = (l, ab) := by
  cases f with
  | zero => cases h
  | succ f => unfold skP at h; rw [if_pos hs] at h; cases h; rfl
theorem skP_next {ms : List Int} {ad len : Int} {f : Nat} {l ab : Int} {R : Int × Int} (h : skP ms ad len f l ab = some R) (hs : ¬ skStop ms ad len l) : ∃ g, f = g + 1 ∧ skP ms ad len g (skNext ms ad l) l = some R := by
  cases f with
  | zero => cases h
  | succ f => unfold skP at h; rw [if_neg hs] at h; exact ⟨f, rfl, h⟩

/-- where one who seeks stands -/
structure SkAt (w : World) (ms : List Int) (ad len : Int) (F : Nat) (R : Int × Int) (link ab : Int) (wr : World) : Prop where
  bel : Below w.heap.size w wr
  sz : w.heap.size + 3 ≤ wr.heap.size
  p0 : wr.cell? ⟨w.heap.size, 0, none⟩ = some (.int .u32 ad)
  p1 : wr.cell? ⟨w.heap.size, 1, none⟩ = some (.int .i64 len)
  r0 : wr.cell? ⟨w.heap.size + 1, 0, none⟩ = some (.int .i64 0)
  r1 : wr.cell? ⟨w.heap.size + 1, 1, none⟩ = some (.int .i64 0)
  rf0 : wr.frozen? ⟨w.heap.size + 1, 0, none⟩ = false
  rf1 : wr.frozen? ⟨w.heap.size + 1, 1, none⟩ = false
  s0 : wr.cell? ⟨w.heap.size + 1 + 1, 0, none⟩ = some (.int .i64 link)
  s1 : wr.cell? ⟨w.heap.size + 1 + 1, 1, none⟩ = some (.int .i64 ab)
  sf0 : wr.frozen? ⟨w.heap.size + 1 + 1, 0, none⟩ = false
  sf1 : wr.frozen? ⟨w.heap.size + 1 + 1, 1, none⟩ = false
  l0 : 0 ≤ link
  l1 : link < 17179869184
  go : ∃ f, f ≤ F ∧ skP ms ad len f link ab = some R
theorem SkAt.below {w : World} {ms : List Int} {ad len : Int} {F : Nat} {R : Int × Int} {link ab : Int} {wr w' : World} (h : SkAt w ms ad len F R link ab wr) (hb : Below wr.heap.size wr w') : SkAt w ms ad len F R link ab w' :=
  ⟨h.bel.trans (hb.mono h.bel.size), Nat.le_trans h.sz hb.size, cell_bel h.p0 hb, cell_bel h.p1 hb, cell_bel h.r0 hb, cell_bel h.r1 hb, (frozen_kept h.r0 (grown_bel hb none) (fun r e => by cases e)).trans h.rf0, (frozen_kept h.r1 (grown_bel hb none) (fun r e => by cases e)).trans h.rf1, cell_bel h.s0 hb, cell_bel h.s1 hb, (frozen_kept h.s0 (grown_bel hb none) (fun r e => by cases e)).trans h.sf0, (frozen_kept h.s1 (grown_bel hb none) (fun r e => by cases e)).trans h.sf1, h.l0, h.l1, h.go⟩
theorem SkAt.next {w : World} {ms : List Int} {ad len : Int} {F : Nat} {R : Int × Int} {link ab x : Int} {W : World} (h : SkAt w ms ad len F R link ab W) (hs : ¬ skStop ms ad len link) (hx : skNext ms ad link = x) (x0 : 0 ≤ x) (x1 : x < 17179869184) :
    SkAt w ms ad len F R x link ((W.setCell ⟨w.heap.size + 1 + 1, 0, none⟩ (.int .i64 x)).setCell ⟨w.heap.size + 1 + 1, 1, none⟩ (.int .i64 link)).drew := by
  have o : ∀ (b i : Nat), b ≠ w.heap.size + 1 + 1 → ((W.setCell ⟨w.heap.size + 1 + 1, 0, none⟩ (.int .i64 x)).setCell ⟨w.heap.size + 1 + 1, 1, none⟩ (.int .i64 link)).drew.cell? ⟨b, i, none⟩ = W.cell? ⟨b, i, none⟩ := fun b i hb =>
by
    show ((W.setCell ⟨w.heap.size + 1 + 1, 0, none⟩ (.int .i64 x)).setCell ⟨w.heap.size + 1 + 1, 1, none⟩ (.int .i64 link)).cell? ⟨b, i, none⟩ = W.cell? ⟨b, i, none⟩
    rw [World.cell?_setCell_other (h := fun e => hb (congrArg Addr.block e).symm), World.cell?_setCell_other (h := fun e => hb (congrArg Addr.block e).symm)]
  have z : ∀ a, ((W.setCell ⟨w.heap.size + 1 + 1, 0, none⟩ (.int .i64 x)).setCell ⟨w.heap.size + 1 + 1, 1, none⟩ (.int .i64 link)).drew.frozen? a = W.frozen? a := fun a => by
    show ((W.setCell ⟨w.heap.size + 1 + 1, 0, none⟩ (.int .i64 x)).setCell ⟨w.heap.size + 1 + 1, 1, none⟩ (.int .i64 link)).frozen? a = W.frozen? a
    rw [World.frozen?_setCell, World.frozen?_setCell]
  obtain ⟨f, hf, hr⟩ := h.go
  obtain ⟨g, rfl, hg⟩ := skP_next hr hs
  rw [hx] at hg
  refine ⟨?_, ?_, (o _ _ (by omega)).trans h.p0, (o _ _ (by omega)).trans h.p1, (o _ _ (by omega)).trans h.r0, (o _ _ (by omega)).trans h.r1, (z _).trans h.rf0, (z _).trans h.rf1, ?_, ?_, (z _).trans h.sf0, (z _).trans h.sf1, x0, x1, g, by omega, hg⟩
  · exact ((h.bel.setCell (p := ⟨w.heap.size + 1 + 1, 0, none⟩) (by simp; omega) _).setCell (p := ⟨w.heap.size + 1 + 1, 1, none⟩) (by simp; omega) _).trans ⟨rfl, rfl, rfl, Nat.le_refl _, fun _ _ => rfl⟩
  · show _ ≤ ((W.setCell _ _).setCell _ _).heap.size
    rw [World.size_setCell, World.size_setCell]; exact h.sz
  · show ((W.setCell ⟨w.heap.size + 1 + 1, 0, none⟩ (.int .i64 x)).setCell ⟨w.heap.size + 1 + 1, 1, none⟩ (.int .i64 link)).cell? ⟨w.heap.size + 1 + 1, 0, none⟩ = _
    rw [World.cell?_setCell_other (h := by simp), World.cell?_setCell_same (h := h.s0)]
  · show ((W.setCell ⟨w.heap.size + 1 + 1, 0, none⟩ (.int .i64 x)).setCell ⟨w.heap.size + 1 + 1, 1, none⟩ (.int .i64 link)).cell? ⟨w.heap.size + 1 + 1, 1, none⟩ = _
    have e : (W.setCell ⟨w.heap.size + 1 + 1, 0, none⟩ (.int .i64 x)).cell? ⟨w.heap.size + 1 + 1, 1, none⟩ = some (.int .i64 ab) := by rw [World.cell?_setCell_other (h := by simp)]; exact h.s1
    rw [World.cell?_setCell_same (h := e)]
theorem SkAt.less {w : World} {ms : List Int} {ad len : Int} {F : Nat} {R : Int × Int} {link ab x : Int} {W : World} (h : SkAt w ms ad len F R link ab W) (hs : ¬ skStop ms ad len link) (hx : skNext ms ad link = x) : skN ms ad len F x < skN ms ad len F link := by
  obtain ⟨f, hf, hr⟩ := h.go
  obtain ⟨g, rfl, hg⟩ := skP_next hr hs
  rw [hx] at hg
  rw [skN_eq hr hf, skN_eq hg (by omega)]
  conv => rhs; unfold skN
  rw [if_neg hs, hx]; omega
def linkOf (w : World) (b : Nat) : Int := match w.cell? ⟨b, 0, none⟩ with | some v => intOf v | none => 0
theorem linkOf_is {w : World} {b : Nat} {x : Int} (h : w.cell? ⟨b, 0, none⟩ = some (.int .i64 x)) : linkOf w b = x := by unfold linkOf; rw [h]; rfl

set_option maxRecDepth 100000 in
set_option maxHeartbeats 4000000 in
theorem seek_any (bt : Nat) (va : Option Addr) (cap : Nat) (ms : List Int) (L : Nat) (hL : ms.length = L) (ad len : Int) (a0 : 0 ≤ ad) (a1 : ad < 4294967296) (n0 : 0 ≤ len) (n1 : len ≤ 32) (F : Nat) (rl rab : Int) (hR : skP ms ad len F 0 0 = some (rl, rab)) (w : World) (h : Wds w va ms) (hc : w.cell? ⟨bt, 0, none⟩ = some (.slice va L cap)) :
    Calls Try.prog 61 #[.pointer (some ⟨bt, 0, none⟩), .agg #[.int .u32 ad, .int .i64 len]] w fun e w' => e = .returned (.agg #[.int .i64 rl, .int .i64 rab]) ∧ Below w.heap.size w w' := by
  have H : Hid (Wds w va ms) := h
  have HR : Hid (skP ms ad len F 0 0 = some (rl, rab)) := hR
  have HL : Hid (ms.length = L) := hL
  have HC : Hid (w.cell? ⟨bt, 0, none⟩ = some (.slice va L cap)) := hc
  clear h hR hL hc
  go_enter Try.func61, Try.ntmps61
  go_wp2_with fail
  go_loopw [] (fun wr => ∃ link ab : Int, SkAt w ms ad len F (rl, rab) link ab wr) (fun wr => skN ms ad len F (linkOf wr (w.heap.size + 1 + 1)))
  case atStart => exact ⟨0, 0, (((Below.refl _ w).alloc (Nat.le_refl _) _).alloc (by simp) _).alloc (by simp; omega) _, by simp, by simp [go_sem], by simp [go_sem], by simp [go_sem], by simp [go_sem], by simp [go_sem], by simp [go_sem], by simp [go_sem], by simp [go_sem], by simp [go_sem], by simp [go_sem], by omega, by omega, F, Nat.le_refl _, HR.out⟩
  case round =>
    obtain ⟨link, ab, hat⟩ := hrel
    have HAT : Hid (SkAt w ms ad len F (rl, rab) link ab wr) := hat
    have l0 := hat.l0
    have l1 := hat.l1
    have s0 := hat.s0
    have s1 := hat.s1
    have HW : Hid (Wds wr va ms) := H.out.bel hat.bel
    have hcm := cell_bel HC.out hat.bel
    obtain ⟨n, hn⟩ : ∃ n, wd ms link = n := ⟨_, rfl⟩
    have HN : Hid (wd ms link = n) := hn
    have hnI : In32 n := hn ▸ wd_in HW.out.u32 _
    have hn0 := hnI.1
    have hn1 := hnI.2
    clear hat hn hnI
    have r0 := HAT.out.r0
    have r1 := HAT.out.r1
    have rf0 := HAT.out.rf0
    have rf1 := HAT.out.rf1
    have hbd : Below wr.heap.size wr wr.drew := ⟨rfl, rfl, rfl, Nat.le_refl _, fun _ _ => rfl⟩
    have HWORD : Hid (Calls _ _ _ _ _) := word_any va cap ms L HL.out link l0 n HN.out wr.drew (HW.out.bel hbd)
    by_cases hz : n = 0
    · obtain rfl := hz
      go_wp2_with fail
      go_still_tail 6, (by kernel_rfl)
      go_wp2_with (go_at_call 62; refine HWORD.out.mono ?_; rintro e w5 ⟨rfl, rfl⟩)
      obtain ⟨f, hf, hs⟩ := HAT.out.go
      have e := skP_stop hs (.inl HN.out)
      cases e
      refine bodyPost_ret (v := .agg #[.int .i64 rl, .int .i64 rab]) (by simp [results, Try.results61, go_sem, r0, r1]) rfl ⟨rfl, ?_⟩
      exact (((HAT.out.bel.trans (hbd.mono HAT.out.bel.size)).setCell (p := ⟨w.heap.size + 1, 0, none⟩) (by simp) _).setCell (p := ⟨w.heap.size + 1, 1, none⟩) (by simp) _)
    · obtain ⟨hd, hhd⟩ : ∃ x, wd ms (n * 4) = x := ⟨_, rfl⟩
      obtain ⟨nd, hnd⟩ : ∃ x, wd ms (n * 4 + 1) = x := ⟨_, rfl⟩
      obtain ⟨u0, hu0⟩ : ∃ x, wd ms (n * 4 + 2) = x := ⟨_, rfl⟩
      obtain ⟨u1, hu1⟩ : ∃ x, wd ms (n * 4 + 3) = x := ⟨_, rfl⟩
      have hdI : In32 hd := hhd ▸ wd_in HW.out.u32 _
      have ndI : In32 nd := hnd ▸ wd_in HW.out.u32 _
      have nd0 := ndI.1
      have nd1 := ndI.2
      obtain ⟨al, hal⟩ : ∃ al, hd / 65536 = al := ⟨_, rfl⟩
      have al0 : 0 ≤ al := by have := hdI.1; omega
      have HHD : Hid (wd ms (n * 4) = hd) := hhd
      have HND : Hid (wd ms (n * 4 + 1) = nd) := hnd
      have HNODE : Hid (Calls _ _ _ _ _) := node_any va cap ms L HL.out n hn0 hn1 hd nd u0 u1 hhd hnd hu0 hu1 wr.drew (HW.out.bel hbd)
      have HAL : Hid (hd / 65536 = al) := hal
      clear hhd hnd hu0 hu1 hdI ndI
      rw [hal] at HNODE
      unfold nodeV at HNODE
      clear hal
      have hfd : ∀ W, Sem.run Try.prog (Instr.field 120 (.agg #[.int .u32 nd, .int .i64 al, .int .i64 (hd % 65536), .int .u32 u0, .int .u32 u1]) 0) W = .ok (.agg #[.int .u32 nd, .int .i64 al]) W := fun _ => by kernel_rfl
      by_cases hlen : len ≤ al
      · go_wp2_with fail
        go_still_tail 6, (by kernel_rfl)
        go_wp2_with (first | (go_at_call 62; refine HWORD.out.mono ?_; rintro e w5 ⟨rfl, rfl⟩) | (go_at_call 63; refine HNODE.out.mono ?_; rintro e w6 ⟨rfl, hb6⟩; have HAT6 : Hid (SkAt w ms ad len F (rl, rab) link ab (w6.alloc (Obj.cells #[.int .u32 nd, .int .i64 al] 33))) := HAT.out.below ((hbd.trans hb6).trans (((Below.refl _ w6).alloc (Nat.le_refl _) _).mono (Nat.le_trans hbd.size hb6.size))); have q0 := HAT6.out.p0; have q1 := HAT6.out.p1; have x0 := HAT6.out.r0; have x1 := HAT6.out.r1; have x2 := HAT6.out.rf0; have x3 := HAT6.out.rf1; have x4 := HAT6.out.s0; have x5 := HAT6.out.s1))
        obtain ⟨f, hf, hs⟩ := HAT.out.go
        have e := skP_stop hs (.inr (.inl (by rw [HN.out, HHD.out, HAL.out]; exact hlen)))
        cases e
        refine bodyPost_ret (v := .agg #[.int .i64 rl, .int .i64 rab]) (by simp [results, Try.results61, go_sem, x0, x1]) rfl ⟨rfl, ?_⟩
        exact ((HAT6.out.bel.setCell (p := ⟨w.heap.size + 1, 0, none⟩) (by simp) _).setCell (p := ⟨w.heap.size + 1, 1, none⟩) (by simp) _)
      · cases hcv : cov nd al ad len with
        | false =>
          have HCOV : Hid (∀ W, Calls _ _ _ W _) := fun W => hcv ▸ covers_any nd al ad len nd0 nd1 a0 a1 W
          go_wp2_with fail
          go_still_tail 6, (by kernel_rfl)
          go_wp2_with (first | (go_at_call 62; refine HWORD.out.mono ?_; rintro e w5 ⟨rfl, rfl⟩) | (go_at_call 63; refine HNODE.out.mono ?_; rintro e w6 ⟨rfl, hb6⟩; have HAT6 : Hid (SkAt w ms ad len F (rl, rab) link ab (w6.alloc (Obj.cells #[.int .u32 nd, .int .i64 al] 33))) := HAT.out.below ((hbd.trans hb6).trans (((Below.refl _ w6).alloc (Nat.le_refl _) _).mono (Nat.le_trans hbd.size hb6.size))); have q0 := HAT6.out.p0; have q1 := HAT6.out.p1; have x0 := HAT6.out.r0; have x1 := HAT6.out.r1; have x2 := HAT6.out.rf0; have x3 := HAT6.out.rf1; have x4 := HAT6.out.s0; have x5 := HAT6.out.s1) | (go_at_call 53; refine (HCOV.out _).mono ?_; rintro e w7 ⟨rfl, hb7⟩; have HAT7 : Hid (SkAt w ms ad len F (rl, rab) link ab w7) := HAT6.out.below hb7; have y0 := HAT7.out.r0; have y1 := HAT7.out.r1; have y2 := HAT7.out.rf0; have y3 := HAT7.out.rf1; have y4 := HAT7.out.s0; have y5 := HAT7.out.s1))
          obtain ⟨f, hf, hs⟩ := HAT.out.go
          have e := skP_stop hs (.inr (.inr (by rw [HN.out, HHD.out, HND.out, HAL.out]; exact hcv)))
          cases e
          refine bodyPost_ret (v := .agg #[.int .i64 rl, .int .i64 rab]) (by simp [results, Try.results61, go_sem, y0, y1]) rfl ⟨rfl, ?_⟩
          exact ((HAT7.out.bel.setCell (p := ⟨w.heap.size + 1, 0, none⟩) (by simp) _).setCell (p := ⟨w.heap.size + 1, 1, none⟩) (by simp) _)
        | true =>
          have HCOV : Hid (∀ W, Calls _ _ _ W _) := fun W => hcv ▸ covers_any nd al ad len nd0 nd1 a0 a1 W
          go_wp2_with fail
          go_still_tail 6, (by kernel_rfl)
          go_wp2_with (first | (go_at_call 62; refine HWORD.out.mono ?_; rintro e w5 ⟨rfl, rfl⟩) | (go_at_call 63; refine HNODE.out.mono ?_; rintro e w6 ⟨rfl, hb6⟩; have HAT6 : Hid (SkAt w ms ad len F (rl, rab) link ab (w6.alloc (Obj.cells #[.int .u32 nd, .int .i64 al] 33))) := HAT.out.below ((hbd.trans hb6).trans (((Below.refl _ w6).alloc (Nat.le_refl _) _).mono (Nat.le_trans hbd.size hb6.size))); have q0 := HAT6.out.p0; have q1 := HAT6.out.p1; have x0 := HAT6.out.r0; have x1 := HAT6.out.r1; have x2 := HAT6.out.rf0; have x3 := HAT6.out.rf1; have x4 := HAT6.out.s0; have x5 := HAT6.out.s1) | (go_at_call 53; refine (HCOV.out _).mono ?_; rintro e w7 ⟨rfl, hb7⟩; have z1 := cell_bel (w := w6.alloc (Obj.cells #[.int .u32 nd, .int .i64 al] 33)) (a := ⟨w6.heap.size, 1, none⟩) (v := .int .i64 al) (by simp) hb7; have HAT7 : Hid (SkAt w ms ad len F (rl, rab) link ab w7) := HAT6.out.below hb7; have y0 := HAT7.out.p0; have y2 := HAT7.out.sf0; have y3 := HAT7.out.sf1; have y4 := HAT7.out.s0; have y5 := HAT7.out.s1))
          obtain ⟨sd, hsd⟩ : ∃ sd, sdI ad al = sd := ⟨_, rfl⟩
          have h01 := sdI_01 ad al
          rw [hsd] at h01
          have HSD : Hid (sdI ad al = sd) := hsd
          have sd0 : 0 ≤ sd := by omega
          have sd1 : sd ≤ 1 := by omega
          have HNS : Hid (¬ skStop ms ad len link) := by
            intro h
            unfold skStop at h
            rw [HN.out, HHD.out, HND.out, HAL.out, hcv] at h
            rcases h with h | h | h
            · exact hz h
            · omega
            · cases h
          have HNE : Hid (skNext ms ad link = n * 4 + (2 + sd)) := by
            show skNext ms ad link = n * 4 + (2 + sd)
            unfold skNext; rw [HN.out, HHD.out, HAL.out, HSD.out]
          have HNX : Hid (SkAt w ms ad len F (rl, rab) (n * 4 + (2 + sd)) link _) := HAT7.out.next HNS.out HNE.out (by omega) (by omega)
          clear hsd h01 q0 q1 x0 x1 x2 x3 x4 x5 r0 r1 rf0 rf1 s0 s1
          go_still_tail 11, (by kernel_rfl)
          still_call (after_is ad al sd HSD.out al0 (by omega) a0 a1 _)
          repeat still_step
          have w2 : IntKind.i64.wrap (2 + sd) = 2 + sd := by rcases (show sd = 0 ∨ sd = 1 by omega) with rfl | rfl <;> decide
          have HPL : Hid (Calls _ _ _ _ _) := place_any n (2 + sd) hn0 hn1 (by omega) (by omega) w7.drew
          refine wpStill_step (fun K hK => ?_)
          go_simp
          refine ⟨_, HPL.out, hK _ ?_⟩
          clear hK K
          repeat still_step
          refine wpStill_nil ?_
          go_wp2_with fail
          go_roundw
          case rel => exact ⟨_, _, HNX.out⟩
          case measure => rw [linkOf_is HNX.out.s0, linkOf_is HAT.out.s0]; exact HAT.out.less HNS.out HNE.out
end Go.Proofs.Ytjhdjbhpofhiaab.Fb
