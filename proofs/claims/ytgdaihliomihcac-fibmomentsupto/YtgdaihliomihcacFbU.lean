/- descend with Touched's function literal: which places it tells. -/
import Derived.Test.YtgdaihliomihcacFbT
import Derived.Test.YtgdaihliomihcacFbB
namespace Go.Proofs.Ytgdaihliomihcac.Fb
open Go.ChangeShapes Go.WideShapes Go.ChangeAt Go.RowKit Go.Joins Go.Proofs.Ytgdaihliomihcac.PM Go.Proofs.Ytgdaihliomihcac.Ask
set_option linter.unusedVariables false

/-- the places that are read on the way down -/
def dscT (ms : List Int) (a : Int) : Nat → Int → Int → List Int
  | 0, _, _ => []
  | f + 1, link, sure =>
    if wd ms link = 0 then [link]
    else if wd ms (wd ms link * 4) / 65536 < sure ∨ wd ms (wd ms link * 4) / 65536 > 32 then [link, wd ms link * 4]
    else if wd ms (wd ms link * 4) / 65536 > sure then
      if has (wd ms (wd ms link * 4 + 1)) (wd ms (wd ms link * 4) / 65536) a = false then [link, wd ms link * 4, wd ms link * 4 + 1]
      else link :: wd ms link * 4 :: (wd ms link * 4 + 1) :: dscT ms a f (wd ms link * 4 + (2 + sdI a (wd ms (wd ms link * 4) / 65536))) (wd ms (wd ms link * 4) / 65536 + 1)
    else link :: wd ms link * 4 :: dscT ms a f (wd ms link * 4 + (2 + sdI a (wd ms (wd ms link * 4) / 65536))) (wd ms (wd ms link * 4) / 65536 + 1)
def placesP (ms : List Int) (a : Int) : List Int := dscT ms a 34 0 0

structure TAt (ms : List Int) (a R : Int) (PS : List Int) (link way sure : Int) (xs : List Int) : Prop where
  l0 : 0 ≤ link
  s0 : 0 ≤ sure
  s1 : sure ≤ 33
  len : (xs.length : Int) ≤ 3 * sure
  run : ∃ f : Nat, dsc ms a f link way sure = R ∧ xs ++ dscT ms a f link sure = PS ∧ 34 ≤ (f : Int) + sure
section
variable {ms : List Int} {a R : Int} {PS : List Int} {link way sure : Int} {xs : List Int}
theorem TAt.fuel (h : TAt ms a R PS link way sure xs) : ∃ f : Nat, dsc ms a (f + 1) link way sure = R ∧ xs ++ dscT ms a (f + 1) link sure = PS ∧ 34 ≤ ((f + 1 : Nat) : Int) + sure := by
  obtain ⟨f, h1, h2, h3⟩ := h.run
  cases f with
  | zero => have := h.s1; simp at h3; omega
  | succ f => exact ⟨f, h1, h2, h3⟩
theorem TAt.end1 (h : TAt ms a R PS link way sure xs) (hn : wd ms link = 0) : R = way ∧ xs ++ [link] = PS := by
  obtain ⟨f, h1, h2, -⟩ := h.fuel
  rw [← h1, ← h2]; unfold dsc dscT; rw [if_pos hn, if_pos hn]; exact ⟨rfl, rfl⟩
theorem TAt.end2 (h : TAt ms a R PS link way sure xs) {n hd len : Int} (hn : wd ms link = n) (h0 : n ≠ 0) (hh : wd ms (n * 4) = hd) (hl : hd / 65536 = len) (hc : len < sure ∨ len > 32) : R = way ∧ (xs ++ [link]) ++ [n * 4] = PS := by
  obtain ⟨f, h1, h2, -⟩ := h.fuel
  subst hn hh hl
  rw [← h1, ← h2]; unfold dsc dscT; rw [if_neg h0, if_pos hc, if_neg h0, if_pos hc]; exact ⟨rfl, by simp⟩
theorem TAt.end3 (h : TAt ms a R PS link way sure xs) {n hd len : Int} (hn : wd ms link = n) (h0 : n ≠ 0) (hh : wd ms (n * 4) = hd) (hl : hd / 65536 = len) (h1 : ¬ len < sure) (h2 : ¬ len > 32) (h3 : len > sure) (h4 : has (wd ms (n * 4 + 1)) len a = false) : R = way ∧ ((xs ++ [link]) ++ [n * 4]) ++ [n * 4 + 1] = PS := by
  obtain ⟨f, e, e2, -⟩ := h.fuel
  subst hn hh hl
  have hA : ¬ (wd ms (wd ms link * 4) / 65536 < sure ∨ wd ms (wd ms link * 4) / 65536 > 32) := fun h => h.elim h1 h2
  rw [← e, ← e2]; unfold dsc dscT; rw [if_neg h0, if_neg hA, if_pos ⟨h3, h4⟩, if_neg h0, if_neg hA, if_pos h3, if_pos h4]; exact ⟨rfl, by simp⟩
theorem TAt.next2 (h : TAt ms a R PS link way sure xs) {n hd len own s : Int} (hn : wd ms link = n) (h0 : n ≠ 0) (hn0 : 0 ≤ n) (hh : wd ms (n * 4) = hd) (hl : hd / 65536 = len) (ho : hd % 65536 = own) (h1 : ¬ len < sure) (h2 : ¬ len > 32)
    (h3 : ¬ len > sure) (hs : sdI a len = s) (way' : Int) (hw : way' = if own = 0 then way else own) : TAt ms a R PS (n * 4 + (2 + s)) way' (len + 1) ((xs ++ [link]) ++ [n * 4]) := by
  obtain ⟨f, e, e2, hf⟩ := h.fuel
  have hs0 := h.s0
  have hle := h.len
  have h01 := sdI_01 a len
  rw [hs] at h01
  refine ⟨by omega, by omega, by omega, by simp; omega, f, ?_, ?_, by push_cast at hf; omega⟩
  all_goals subst hn hh hl ho hs hw
  all_goals have hA : ¬ (wd ms (wd ms link * 4) / 65536 < sure ∨ wd ms (wd ms link * 4) / 65536 > 32) := fun h => h.elim h1 h2
  · have hB : ¬ (wd ms (wd ms link * 4) / 65536 > sure ∧ has (wd ms (wd ms link * 4 + 1)) (wd ms (wd ms link * 4) / 65536) a = false) := fun h => h3 h.1
    rw [← e]
    conv => rhs; unfold dsc
    rw [if_neg h0, if_neg hA, if_neg hB]
  · rw [← e2]
    conv => rhs; unfold dscT
    rw [if_neg h0, if_neg hA, if_neg h3]
    simp
theorem TAt.next3 (h : TAt ms a R PS link way sure xs) {n hd len own s : Int} (hn : wd ms link = n) (h0 : n ≠ 0) (hn0 : 0 ≤ n) (hh : wd ms (n * 4) = hd) (hl : hd / 65536 = len) (ho : hd % 65536 = own) (h1 : ¬ len < sure) (h2 : ¬ len > 32)
    (h3 : len > sure) (h4 : has (wd ms (n * 4 + 1)) len a = true) (hs : sdI a len = s) (way' : Int) (hw : way' = if own = 0 then way else own) : TAt ms a R PS (n * 4 + (2 + s)) way' (len + 1) (((xs ++ [link]) ++ [n * 4]) ++ [n * 4 + 1]) := by
  obtain ⟨f, e, e2, hf⟩ := h.fuel
  have hs0 := h.s0
  have hle := h.len
  have h01 := sdI_01 a len
  rw [hs] at h01
  refine ⟨by omega, by omega, by omega, by simp; omega, f, ?_, ?_, by push_cast at hf; omega⟩
  all_goals subst hn hh hl ho hs hw
  all_goals have hA : ¬ (wd ms (wd ms link * 4) / 65536 < sure ∨ wd ms (wd ms link * 4) / 65536 > 32) := fun h => h.elim h1 h2
  · have hB : ¬ (wd ms (wd ms link * 4) / 65536 > sure ∧ has (wd ms (wd ms link * 4 + 1)) (wd ms (wd ms link * 4) / 65536) a = false) := fun h => by rw [h4] at h; exact absurd h.2 (by decide)
    rw [← e]
    conv => rhs; unfold dsc
    rw [if_neg h0, if_neg hA, if_neg hB]
  · rw [← e2]
    conv => rhs; unfold dscT
    rw [if_neg h0, if_neg hA, if_pos h3, if_neg (by rw [h4]; decide)]
    simp
end

/-- how memory stands while places are told -/
structure TSo (wA : World) (base bp : Nat) (own0 : Option Nat) (s : Nat) (va : Option Addr) (ms : List Int) (L cap : Nat) (xs : List Int) (own : Option Nat) (wr : World) : Prop where
  va0 : ∀ b o, va = some ⟨b, o, none⟩ → b < bp
  sA : base ≤ s ∧ s + 2 ≤ wA.heap.size
  ownlt : ∀ g, own0 = some g → base ≤ g ∧ g < s
  kp : Kp bp wA own0 wr own
  tb : Tb base wr bp xs own
  wds : Wds wr va ms
  m : wr.cell? ⟨s, 0, none⟩ = some (.slice va L cap)
  t : wr.cell? ⟨s + 1, 0, none⟩ = some (.func (.func 36) #[] #[.pointer (some ⟨bp, 0, none⟩)])
def TS (wA : World) (base bp : Nat) (own0 : Option Nat) (s : Nat) (va : Option Addr) (ms : List Int) (L cap : Nat) (xs : List Int) (wr : World) : Prop := ∃ own, TSo wA base bp own0 s va ms L cap xs own wr
section
variable {wA : World} {base bp : Nat} {own0 : Option Nat} {s : Nat} {va : Option Addr} {ms : List Int} {L cap : Nat} {xs xs' : List Int} {own own' : Option Nat} {wr w' : World}
theorem TSo.ge (h : TSo wA base bp own0 s va ms L cap xs own wr) : ∀ g, own = some g → base ≤ g := by
  intro g e
  obtain ⟨v, -, hr, ho⟩ := h.tb.row
  exact (hr.lt g (by rw [ho, e])).1
theorem TSo.step (h : TSo wA base bp own0 s va ms L cap xs own wr) (ht : Tb base w' bp xs' own') (hk : Kp bp wr own w' own') : TSo wA base bp own0 s va ms L cap xs' own' w' := by
  have hlt := h.tb.lt
  have hs1 : s < wr.heap.size := by obtain ⟨ob, hob, -⟩ := cells_of_cell h.m; exact (Array.getElem?_eq_some_iff.1 hob).1
  have hs2 : s + 1 < wr.heap.size := by obtain ⟨ob, hob, -⟩ := cells_of_cell h.t; exact (Array.getElem?_eq_some_iff.1 hob).1
  have hsA := h.sA
  have ne : ∀ b, base ≤ b → b < s + 2 → s ≤ b → some b ≠ own := fun b _ h2 h3 => h.kp.ne (by omega) (fun e => by have := h.ownlt b e.symm; omega)
  refine ⟨h.va0, h.sA, h.ownlt, h.kp.trans hk, ht, ⟨h.wds.small, fun i hi => ?_, h.wds.u32⟩, (hk.cell hs1 (by omega) (ne s hsA.1 (by omega) (Nat.le_refl _))).trans h.m, (hk.cell hs2 (by omega) (ne (s + 1) (by omega) (by omega) (by omega))).trans h.t⟩
  obtain ⟨b, o, e, hb, hc⟩ := h.wds.cells i hi
  have hbp := h.va0 b o e
  exact ⟨b, o, e, Nat.lt_of_lt_of_le hb hk.size, (hk.cell hb (by omega) (fun e => by have := h.ge b e.symm; omega)).trans hc⟩
theorem TS.bel (h : TS wA base bp own0 s va ms L cap xs wr) (hb : Below wr.heap.size wr w') : TS wA base bp own0 s va ms L cap xs w' := by
  obtain ⟨own, h⟩ := h
  exact ⟨own, h.step (h.tb.bel hb) (Kp.bel hb (Nat.lt_of_lt_of_le h.tb.lt h.tb.le))⟩
theorem TS.fin {w : World} (h : TS wA base bp own0 s va ms L cap xs wr) {PS : List Int} (e : xs = PS) (hb : Below w.heap.size w wA) (hbp : bp < w.heap.size) : ∃ own', Tb base wr bp PS own' ∧ Kp bp w own0 wr own' := by
  obtain ⟨own, h⟩ := h
  subst e
  exact ⟨own, h.tb, (Kp.bel hb hbp).trans h.kp⟩
end

set_option maxHeartbeats 400000 in
theorem read_touch (wA : World) (base bp : Nat) (own0 : Option Nat) (s : Nat) (va : Option Addr) (cap : Nat) (ms : List Int) (L : Nat) (hL : ms.length = L) (xs : List Int) (i : Int) (h0 : 0 ≤ i) (v : Int) (hv : wd ms i = v) (w : World) (h : TS wA base bp own0 s va ms L cap xs w) (hx : xs.length ≤ 1000) :
    Calls Try.prog 63 #[.int .i64 i, .pointer (some ⟨s + 1, 0, none⟩), .pointer (some ⟨s, 0, none⟩)] w fun e w' => e = .returned (.int .u32 v) ∧ TS wA base bp own0 s va ms L cap (xs ++ [i]) w' := by
  obtain ⟨own, h⟩ := h
  have H : Hid (TSo wA base bp own0 s va ms L cap xs own w) := h
  have HV : Hid (wd ms i = v) := hv
  have HL : Hid (ms.length = L) := hL
  have cT := h.t
  have cM := h.m
  clear h hv hL
  go_enter Try.func63, Try.ntmps63
  go_wp2_with fail
  refine (touch_any base bp own xs i (by omega) w H.out.tb).mono ?_
  rintro e w1 ⟨⟨vv, rfl⟩, own1, ht1, hk1⟩
  have H1 : Hid (TSo wA base bp own0 s va ms L cap (xs ++ [i]) own1 w1) := H.out.step ht1 hk1
  have cM1 := H1.out.m
  clear cT cM ht1 hk1
  go_wp2_with fail
  refine (word_any va cap ms L HL.out i h0 v HV.out _ H1.out.wds).mono ?_
  rintro e w2 ⟨rfl, rfl⟩
  go_wp2_with fail
  go_ret
  exact ⟨rfl, own1, H1.out⟩

set_option maxRecDepth 100000 in
set_option maxHeartbeats 8000000 in
theorem descend_touch (base bp : Nat) (own0 : Option Nat) (va : Option Addr) (cap : Nat) (ms : List Int) (L : Nat) (hL : ms.length = L) (a : Int) (a0 : 0 ≤ a) (a1 : a < 4294967296) (R : Int) (hR : findP ms a = R) (PS : List Int) (hPS : placesP ms a = PS) (w : World) (h : Wds w va ms) (hva : ∀ b o, va = some ⟨b, o, none⟩ → b < bp) (ht : Tb base w bp [] own0) :
    Calls Try.prog 33 #[.slice va L cap, .int .u32 a, .func (.func 36) #[] #[.pointer (some ⟨bp, 0, none⟩)]] w fun e w' => e = .returned (.int .i64 R) ∧ ∃ own', Tb base w' bp PS own' ∧ Kp bp w own0 w' own' := by
  have H : Hid (Wds w va ms) := h
  have HR : Hid (findP ms a = R) := hR
  have HPS : Hid (placesP ms a = PS) := hPS
  have HL : Hid (ms.length = L) := hL
  have HVA : Hid (∀ b o, va = some ⟨b, o, none⟩ → b < bp) := hva
  have HT : Hid (Tb base w bp [] own0) := ht
  have hbpw : bp < w.heap.size := Nat.lt_of_lt_of_le ht.lt ht.le
  clear h hR hL hPS hva ht
  go_enter Try.func33, Try.ntmps33
  go_wp2_with fail
  obtain ⟨wA, hwA⟩ : ∃ wA, (w.alloc (Obj.cells #[.slice va L cap] 72)).alloc (Obj.cells #[.func (.func 36) #[] #[.pointer (some ⟨bp, 0, none⟩)]] 80) = wA := ⟨_, rfl⟩
  have hbA : Below w.heap.size w wA := by rw [← hwA]; exact ((Below.refl _ w).alloc (Nat.le_refl _) _).alloc (by simp) _
  have hsA : wA.heap.size = w.heap.size + 2 := by rw [← hwA]; simp
  have HBX : Hid (TS wA base bp own0 w.heap.size va ms L cap [] wA) := by
    have g1 := World.alloc_heap_new w (Obj.cells #[.slice va L cap] 72)
    have g2 := World.alloc_heap_new (w.alloc (Obj.cells #[.slice va L cap] 72)) (Obj.cells #[.func (.func 36) #[] #[.pointer (some ⟨bp, 0, none⟩)]] 80)
    rw [World.size_alloc] at g2
    have g1' := (Below.heap_alloc (w.alloc (Obj.cells #[.slice va L cap] 72)) (Obj.cells #[.func (.func 36) #[] #[.pointer (some ⟨bp, 0, none⟩)]] 80) w.heap.size (by simp)).trans g1
    rw [hwA] at g1' g2
    refine ⟨own0, HVA.out, ⟨HT.out.le, by omega⟩, fun g e => ?_, Kp.refl _ _ _, HT.out.bel hbA, H.out.bel hbA, by simp [World.cell?, g1'], by simp [World.cell?, g2]⟩
    obtain ⟨v, -, hr, ho⟩ := HT.out.row
    exact hr.lt g (by rw [ho, e])
  rw [hwA]
  clear hwA
  go_loopw [8, 9, 10] (fun wy su li wr => ∃ (way sure link : Int) (xs : List Int), wy = .int .i64 way ∧ su = .int .i64 sure ∧ li = .int .i64 link ∧ TAt ms a R PS link way sure xs ∧ TS wA base bp own0 w.heap.size va ms L cap xs wr) (fun _ su _ _ => (34 - intOf su).toNat)
  case atStart => exact ⟨0, 0, 0, [], rfl, rfl, rfl, ⟨by omega, by omega, by omega, by simp, 34, HR.out, HPS.out, by omega⟩, HBX.out⟩
  case round =>
    obtain ⟨way, sure, link, xs, rfl, rfl, rfl, hat, hts⟩ := hrel
    have HAT : Hid (TAt ms a R PS link way sure xs) := hat
    have HTS : Hid (TS wA base bp own0 w.heap.size va ms L cap xs wr) := hts
    have l0 := hat.l0
    have s0 := hat.s0
    have s1 := hat.s1
    have hxl := hat.len
    clear hat hts
    obtain ⟨n, hn⟩ : ∃ n, wd ms link = n := ⟨_, rfl⟩
    have hnI : In32 n := hn ▸ wd_in H.out.u32 link
    have HN : Hid (wd ms link = n) := hn
    clear hn
    have n0 : 0 ≤ n := hnI.1
    have n1 : n < 4294967296 := hnI.2
    obtain ⟨hd, hhd⟩ : ∃ hd, wd ms (n * 4) = hd := ⟨_, rfl⟩
    have hdI : In32 hd := hhd ▸ wd_in H.out.u32 _
    have HHD' : Hid (wd ms (n * 4) = hd) := hhd
    clear hhd
    obtain ⟨h0, h1⟩ := hdI
    obtain ⟨len, hlen⟩ : ∃ len, hd / 65536 = len := ⟨_, rfl⟩
    obtain ⟨own, hown⟩ : ∃ own, hd % 65536 = own := ⟨_, rfl⟩
    have len0 : 0 ≤ len := by omega
    have len1 : len ≤ 65535 := by omega
    have own0' : 0 ≤ own := by omega
    have own1 : own ≤ 65535 := by omega
    have HLEN : Hid (hd / 65536 = len) := hlen
    have HOWN : Hid (hd % 65536 = own) := hown
    have HPARTS : Hid (∀ W, Calls Try.prog 64 #[.int .u32 hd] W fun e w' => e = .returned (.tuple #[.int .i64 len, .int .i64 own]) ∧ w' = W) := fun W => by
      have := parts_any hd h0 h1 W; rw [HLEN.out, HOWN.out] at this; exact this
    clear hlen hown
    by_cases hz : n = 0
    · subst hz
      obtain ⟨rfl, hps⟩ : R = way ∧ _ := HAT.out.end1 HN.out
      have HPP : Hid (xs ++ [link] = PS) := hps
      clear hps
      go_wp2_with fail
      refine (read_touch wA base bp own0 w.heap.size va cap ms L HL.out xs (link) (by omega) 0 HN.out _ HTS.out (by (try simp only [List.length_append, List.length_cons, List.length_nil]); omega)).mono ?_
      rintro e w1 ⟨rfl, h1⟩
      have HT1 : Hid (TS wA base bp own0 w.heap.size va ms L cap (xs ++ [link]) w1) := h1
      clear h1
      go_wp2_with fail
      go_ret
      exact ⟨rfl, HT1.out.fin HPP.out hbA hbpw⟩
    · have hzn : ¬ n = 0 := hz
      by_cases hc1 : len < sure
      · obtain ⟨rfl, hps⟩ : R = way ∧ _ := HAT.out.end2 HN.out hz HHD'.out HLEN.out (.inl hc1)
        have HPP : Hid ((xs ++ [link]) ++ [n * 4] = PS) := hps
        clear hps
        go_wp2_with fail
        refine (read_touch wA base bp own0 w.heap.size va cap ms L HL.out xs (link) (by omega) n HN.out _ HTS.out (by (try simp only [List.length_append, List.length_cons, List.length_nil]); omega)).mono ?_
        rintro e w1 ⟨rfl, h1⟩
        have HT1 : Hid (TS wA base bp own0 w.heap.size va ms L cap (xs ++ [link]) w1) := h1
        clear h1
        go_wp2_with fail
        refine (place_any n 0 n0 n1 (by decide) (by decide) _).mono ?_
        rintro e wq ⟨rfl, rfl⟩
        go_wp2_with fail
        refine (read_touch wA base bp own0 w.heap.size va cap ms L HL.out (xs ++ [link]) (n * 4) (by omega) hd HHD'.out _ HT1.out (by (try simp only [List.length_append, List.length_cons, List.length_nil]); omega)).mono ?_
        rintro e w2 ⟨rfl, h2⟩
        have HT2 : Hid (TS wA base bp own0 w.heap.size va ms L cap ((xs ++ [link]) ++ [n * 4]) w2) := h2
        clear h2
        go_wp2_with fail
        refine (HPARTS.out _).mono ?_
        rintro e wq ⟨rfl, rfl⟩
        go_wp2_with fail
        go_ret
        exact ⟨rfl, HT2.out.fin HPP.out hbA hbpw⟩
      · by_cases hc2 : len > 32
        · obtain ⟨rfl, hps⟩ : R = way ∧ _ := HAT.out.end2 HN.out hz HHD'.out HLEN.out (.inr hc2)
          have HPP : Hid ((xs ++ [link]) ++ [n * 4] = PS) := hps
          clear hps
          go_wp2_with fail
          refine (read_touch wA base bp own0 w.heap.size va cap ms L HL.out xs (link) (by omega) n HN.out _ HTS.out (by (try simp only [List.length_append, List.length_cons, List.length_nil]); omega)).mono ?_
          rintro e w1 ⟨rfl, h1⟩
          have HT1 : Hid (TS wA base bp own0 w.heap.size va ms L cap (xs ++ [link]) w1) := h1
          clear h1
          go_wp2_with fail
          refine (place_any n 0 n0 n1 (by decide) (by decide) _).mono ?_
          rintro e wq ⟨rfl, rfl⟩
          go_wp2_with fail
          refine (read_touch wA base bp own0 w.heap.size va cap ms L HL.out (xs ++ [link]) (n * 4) (by omega) hd HHD'.out _ HT1.out (by (try simp only [List.length_append, List.length_cons, List.length_nil]); omega)).mono ?_
          rintro e w2 ⟨rfl, h2⟩
          have HT2 : Hid (TS wA base bp own0 w.heap.size va ms L cap ((xs ++ [link]) ++ [n * 4]) w2) := h2
          clear h2
          go_wp2_with fail
          refine (HPARTS.out _).mono ?_
          rintro e wq ⟨rfl, rfl⟩
          go_wp2_with fail
          go_ret
          exact ⟨rfl, HT2.out.fin HPP.out hbA hbpw⟩
        · by_cases hc3 : len > sure
          · obtain ⟨ad, had⟩ : ∃ ad, wd ms (n * 4 + 1) = ad := ⟨_, rfl⟩
            have hadI : In32 ad := had ▸ wd_in H.out.u32 _
            have HAD : Hid (wd ms (n * 4 + 1) = ad) := had
            clear had
            obtain ⟨ad0, ad1⟩ := hadI
            cases hh : has ad len a with
            | false =>
              have HH : Hid (has ad len a = false) := hh
              clear hh
              obtain ⟨rfl, hps⟩ : R = way ∧ _ := HAT.out.end3 HN.out hz HHD'.out HLEN.out hc1 hc2 hc3 (by rw [HAD.out]; exact HH.out)
              have HPP : Hid (((xs ++ [link]) ++ [n * 4]) ++ [n * 4 + 1] = PS) := hps
              clear hps
              go_wp2_with fail
              refine (read_touch wA base bp own0 w.heap.size va cap ms L HL.out xs (link) (by omega) n HN.out _ HTS.out (by (try simp only [List.length_append, List.length_cons, List.length_nil]); omega)).mono ?_
              rintro e w1 ⟨rfl, h1⟩
              have HT1 : Hid (TS wA base bp own0 w.heap.size va ms L cap (xs ++ [link]) w1) := h1
              clear h1
              go_wp2_with fail
              refine (place_any n 0 n0 n1 (by decide) (by decide) _).mono ?_
              rintro e wq ⟨rfl, rfl⟩
              go_wp2_with fail
              refine (read_touch wA base bp own0 w.heap.size va cap ms L HL.out (xs ++ [link]) (n * 4) (by omega) hd HHD'.out _ HT1.out (by (try simp only [List.length_append, List.length_cons, List.length_nil]); omega)).mono ?_
              rintro e w2 ⟨rfl, h2⟩
              have HT2 : Hid (TS wA base bp own0 w.heap.size va ms L cap ((xs ++ [link]) ++ [n * 4]) w2) := h2
              clear h2
              go_wp2_with fail
              refine (HPARTS.out _).mono ?_
              rintro e wq ⟨rfl, rfl⟩
              go_wp2_with fail
              refine (place_any n 1 n0 n1 (by decide) (by decide) _).mono ?_
              rintro e wq ⟨rfl, rfl⟩
              go_wp2_with fail
              refine (read_touch wA base bp own0 w.heap.size va cap ms L HL.out ((xs ++ [link]) ++ [n * 4]) (n * 4 + 1) (by omega) ad HAD.out _ HT2.out (by (try simp only [List.length_append, List.length_cons, List.length_nil]); omega)).mono ?_
              rintro e w3 ⟨rfl, h3⟩
              have HT3 : Hid (TS wA base bp own0 w.heap.size va ms L cap (((xs ++ [link]) ++ [n * 4]) ++ [n * 4 + 1]) w3) := h3
              clear h3
              go_wp2_with fail
              refine (has_no ad len a HH.out ad0 ad1 a0 a1 _).mono ?_
              rintro e w5 ⟨rfl, hb5⟩
              have HT5 : Hid (TS wA base bp own0 w.heap.size va ms L cap (((xs ++ [link]) ++ [n * 4]) ++ [n * 4 + 1]) w5) := HT3.out.bel hb5
              clear hb5
              go_wp2_with fail
              go_ret
              exact ⟨rfl, HT5.out.fin HPP.out hbA hbpw⟩
            | true =>
              have HH : Hid (has ad len a = true) := hh
              clear hh
              by_cases hown0 : own = 0
              · subst hown0
                go_wp2_with fail
                refine (read_touch wA base bp own0 w.heap.size va cap ms L HL.out xs (link) (by omega) n HN.out _ HTS.out (by (try simp only [List.length_append, List.length_cons, List.length_nil]); omega)).mono ?_
                rintro e w1 ⟨rfl, h1⟩
                have HT1 : Hid (TS wA base bp own0 w.heap.size va ms L cap (xs ++ [link]) w1) := h1
                clear h1
                go_wp2_with fail
                refine (place_any n 0 n0 n1 (by decide) (by decide) _).mono ?_
                rintro e wq ⟨rfl, rfl⟩
                go_wp2_with fail
                refine (read_touch wA base bp own0 w.heap.size va cap ms L HL.out (xs ++ [link]) (n * 4) (by omega) hd HHD'.out _ HT1.out (by (try simp only [List.length_append, List.length_cons, List.length_nil]); omega)).mono ?_
                rintro e w2 ⟨rfl, h2⟩
                have HT2 : Hid (TS wA base bp own0 w.heap.size va ms L cap ((xs ++ [link]) ++ [n * 4]) w2) := h2
                clear h2
                go_wp2_with fail
                refine (HPARTS.out _).mono ?_
                rintro e wq ⟨rfl, rfl⟩
                go_wp2_with fail
                refine (place_any n 1 n0 n1 (by decide) (by decide) _).mono ?_
                rintro e wq ⟨rfl, rfl⟩
                go_wp2_with fail
                refine (read_touch wA base bp own0 w.heap.size va cap ms L HL.out ((xs ++ [link]) ++ [n * 4]) (n * 4 + 1) (by omega) ad HAD.out _ HT2.out (by (try simp only [List.length_append, List.length_cons, List.length_nil]); omega)).mono ?_
                rintro e w3 ⟨rfl, h3⟩
                have HT3 : Hid (TS wA base bp own0 w.heap.size va ms L cap (((xs ++ [link]) ++ [n * 4]) ++ [n * 4 + 1]) w3) := h3
                clear h3
                go_wp2_with fail
                refine (has_yes ad len a HH.out ad0 ad1 a0 a1 _).mono ?_
                rintro e w5 ⟨rfl, hb5⟩
                have HT5 : Hid (TS wA base bp own0 w.heap.size va ms L cap (((xs ++ [link]) ++ [n * 4]) ++ [n * 4 + 1]) w5) := HT3.out.bel hb5
                clear hb5
                go_wp2_with fail
                obtain ⟨sd, hsd⟩ : ∃ sd, sdI a len = sd := ⟨_, rfl⟩
                have h01 := sdI_01 a len
                rw [hsd] at h01
                have HSD : Hid (sdI a len = sd) := hsd
                have sd0 : 0 ≤ sd := by omega
                have sd1 : sd ≤ 1 := by omega
                clear hsd
                refine (after_is a len sd HSD.out len0 (by omega) a0 a1 _).mono ?_
                rintro e wq ⟨rfl, rfl⟩
                go_wp2_with fail
                refine (place_any n (2 + sd) n0 n1 (by omega) (by omega) _).mono ?_
                rintro e wq ⟨rfl, rfl⟩
                go_wp2_with fail
                go_roundw
                case rel => exact ⟨_, len + 1, n * 4 + (2 + sd), _, rfl, rfl, rfl, HAT.out.next3 HN.out hz n0 HHD'.out HLEN.out HOWN.out (by omega) (by omega) (by omega) (by rw [HAD.out]; exact HH.out) HSD.out _ (by rw [if_pos rfl]), HT5.out⟩
                case measure => simp [intOf]; omega
              · go_wp2_with fail
                refine (read_touch wA base bp own0 w.heap.size va cap ms L HL.out xs (link) (by omega) n HN.out _ HTS.out (by (try simp only [List.length_append, List.length_cons, List.length_nil]); omega)).mono ?_
                rintro e w1 ⟨rfl, h1⟩
                have HT1 : Hid (TS wA base bp own0 w.heap.size va ms L cap (xs ++ [link]) w1) := h1
                clear h1
                go_wp2_with fail
                refine (place_any n 0 n0 n1 (by decide) (by decide) _).mono ?_
                rintro e wq ⟨rfl, rfl⟩
                go_wp2_with fail
                refine (read_touch wA base bp own0 w.heap.size va cap ms L HL.out (xs ++ [link]) (n * 4) (by omega) hd HHD'.out _ HT1.out (by (try simp only [List.length_append, List.length_cons, List.length_nil]); omega)).mono ?_
                rintro e w2 ⟨rfl, h2⟩
                have HT2 : Hid (TS wA base bp own0 w.heap.size va ms L cap ((xs ++ [link]) ++ [n * 4]) w2) := h2
                clear h2
                go_wp2_with fail
                refine (HPARTS.out _).mono ?_
                rintro e wq ⟨rfl, rfl⟩
                go_wp2_with fail
                refine (place_any n 1 n0 n1 (by decide) (by decide) _).mono ?_
                rintro e wq ⟨rfl, rfl⟩
                go_wp2_with fail
                refine (read_touch wA base bp own0 w.heap.size va cap ms L HL.out ((xs ++ [link]) ++ [n * 4]) (n * 4 + 1) (by omega) ad HAD.out _ HT2.out (by (try simp only [List.length_append, List.length_cons, List.length_nil]); omega)).mono ?_
                rintro e w3 ⟨rfl, h3⟩
                have HT3 : Hid (TS wA base bp own0 w.heap.size va ms L cap (((xs ++ [link]) ++ [n * 4]) ++ [n * 4 + 1]) w3) := h3
                clear h3
                go_wp2_with fail
                refine (has_yes ad len a HH.out ad0 ad1 a0 a1 _).mono ?_
                rintro e w5 ⟨rfl, hb5⟩
                have HT5 : Hid (TS wA base bp own0 w.heap.size va ms L cap (((xs ++ [link]) ++ [n * 4]) ++ [n * 4 + 1]) w5) := HT3.out.bel hb5
                clear hb5
                go_wp2_with fail
                obtain ⟨sd, hsd⟩ : ∃ sd, sdI a len = sd := ⟨_, rfl⟩
                have h01 := sdI_01 a len
                rw [hsd] at h01
                have HSD : Hid (sdI a len = sd) := hsd
                have sd0 : 0 ≤ sd := by omega
                have sd1 : sd ≤ 1 := by omega
                clear hsd
                refine (after_is a len sd HSD.out len0 (by omega) a0 a1 _).mono ?_
                rintro e wq ⟨rfl, rfl⟩
                go_wp2_with fail
                refine (place_any n (2 + sd) n0 n1 (by omega) (by omega) _).mono ?_
                rintro e wq ⟨rfl, rfl⟩
                go_wp2_with fail
                go_roundw
                case rel => exact ⟨_, len + 1, n * 4 + (2 + sd), _, rfl, rfl, rfl, HAT.out.next3 HN.out hz n0 HHD'.out HLEN.out HOWN.out (by omega) (by omega) (by omega) (by rw [HAD.out]; exact HH.out) HSD.out _ (by rw [if_neg hown0]), HT5.out⟩
                case measure => simp [intOf]; omega
          · by_cases hown0 : own = 0
            · subst hown0
              go_wp2_with fail
              refine (read_touch wA base bp own0 w.heap.size va cap ms L HL.out xs (link) (by omega) n HN.out _ HTS.out (by (try simp only [List.length_append, List.length_cons, List.length_nil]); omega)).mono ?_
              rintro e w1 ⟨rfl, h1⟩
              have HT1 : Hid (TS wA base bp own0 w.heap.size va ms L cap (xs ++ [link]) w1) := h1
              clear h1
              go_wp2_with fail
              refine (place_any n 0 n0 n1 (by decide) (by decide) _).mono ?_
              rintro e wq ⟨rfl, rfl⟩
              go_wp2_with fail
              refine (read_touch wA base bp own0 w.heap.size va cap ms L HL.out (xs ++ [link]) (n * 4) (by omega) hd HHD'.out _ HT1.out (by (try simp only [List.length_append, List.length_cons, List.length_nil]); omega)).mono ?_
              rintro e w2 ⟨rfl, h2⟩
              have HT2 : Hid (TS wA base bp own0 w.heap.size va ms L cap ((xs ++ [link]) ++ [n * 4]) w2) := h2
              clear h2
              go_wp2_with fail
              refine (HPARTS.out _).mono ?_
              rintro e wq ⟨rfl, rfl⟩
              go_wp2_with fail
              obtain ⟨sd, hsd⟩ : ∃ sd, sdI a len = sd := ⟨_, rfl⟩
              have h01 := sdI_01 a len
              rw [hsd] at h01
              have HSD : Hid (sdI a len = sd) := hsd
              have sd0 : 0 ≤ sd := by omega
              have sd1 : sd ≤ 1 := by omega
              clear hsd
              refine (after_is a len sd HSD.out len0 (by omega) a0 a1 _).mono ?_
              rintro e wq ⟨rfl, rfl⟩
              go_wp2_with fail
              refine (place_any n (2 + sd) n0 n1 (by omega) (by omega) _).mono ?_
              rintro e wq ⟨rfl, rfl⟩
              go_wp2_with fail
              go_roundw
              case rel => exact ⟨_, len + 1, n * 4 + (2 + sd), _, rfl, rfl, rfl, HAT.out.next2 HN.out hz n0 HHD'.out HLEN.out HOWN.out (by omega) (by omega) (by omega) HSD.out _ (by rw [if_pos rfl]), HT2.out⟩
              case measure => simp [intOf]; omega
            · go_wp2_with fail
              refine (read_touch wA base bp own0 w.heap.size va cap ms L HL.out xs (link) (by omega) n HN.out _ HTS.out (by (try simp only [List.length_append, List.length_cons, List.length_nil]); omega)).mono ?_
              rintro e w1 ⟨rfl, h1⟩
              have HT1 : Hid (TS wA base bp own0 w.heap.size va ms L cap (xs ++ [link]) w1) := h1
              clear h1
              go_wp2_with fail
              refine (place_any n 0 n0 n1 (by decide) (by decide) _).mono ?_
              rintro e wq ⟨rfl, rfl⟩
              go_wp2_with fail
              refine (read_touch wA base bp own0 w.heap.size va cap ms L HL.out (xs ++ [link]) (n * 4) (by omega) hd HHD'.out _ HT1.out (by (try simp only [List.length_append, List.length_cons, List.length_nil]); omega)).mono ?_
              rintro e w2 ⟨rfl, h2⟩
              have HT2 : Hid (TS wA base bp own0 w.heap.size va ms L cap ((xs ++ [link]) ++ [n * 4]) w2) := h2
              clear h2
              go_wp2_with fail
              refine (HPARTS.out _).mono ?_
              rintro e wq ⟨rfl, rfl⟩
              go_wp2_with fail
              obtain ⟨sd, hsd⟩ : ∃ sd, sdI a len = sd := ⟨_, rfl⟩
              have h01 := sdI_01 a len
              rw [hsd] at h01
              have HSD : Hid (sdI a len = sd) := hsd
              have sd0 : 0 ≤ sd := by omega
              have sd1 : sd ≤ 1 := by omega
              clear hsd
              refine (after_is a len sd HSD.out len0 (by omega) a0 a1 _).mono ?_
              rintro e wq ⟨rfl, rfl⟩
              go_wp2_with fail
              refine (place_any n (2 + sd) n0 n1 (by omega) (by omega) _).mono ?_
              rintro e wq ⟨rfl, rfl⟩
              go_wp2_with fail
              go_roundw
              case rel => exact ⟨_, len + 1, n * 4 + (2 + sd), _, rfl, rfl, rfl, HAT.out.next2 HN.out hz n0 HHD'.out HLEN.out HOWN.out (by omega) (by omega) (by omega) HSD.out _ (by rw [if_neg hown0]), HT2.out⟩
              case measure => simp [intOf]; omega
end Go.Proofs.Ytgdaihliomihcac.Fb
