/- The document's value of an attribute. -/
import Derived.Test.YtghlgkpfcpcopaaPyB
import Derived.Test.YtghlgkpfcpcopaaMgA
import Derived.Test.YtghlgkpfcpcopaaPwE
namespace Go.Proofs.Ytghlgkpfcpcopaa.Pv
open Go.ChangeShapes Go.WideShapes Go.ChangeAt Go.RowKit Go.Joins Go.Proofs.Ytghlgkpfcpcopaa.PM Go.Proofs.Ytghlgkpfcpcopaa.Ask Go.Proofs.Ytghlgkpfcpcopaa.Ge
set_option linter.unusedVariables false

/-- a route as a struct -/
def RtK : Sk := ⟨29, 10, _, Try.underlying29, rfl, by kernel_rfl⟩
theorem rb_sb {b : Nat} {t : Rt} {s : Sl} {w : World} : RB b t s w ↔ SB RtK b (rtL t s) w := Iff.rfl
theorem rtL_one (t : Rt) (s : Sl) : (rtL t s).all (·.oneCell') = true := rfl
theorem rtL_len (t : Rt) (s : Sl) : (rtL t s).length = RtK.k := rfl
theorem rb_new {w W : World} {k : Nat} (hk : w.heap.size = k) (h : w.alloc (Obj.cells #[.int .u32 0, .int .i64 0, .slice none 0 0, .int .i64 0, .int .i64 0, .int .i64 0, .int .u32 0, .slice none 0 0, .slice none 0 0, .int .i64 0] 29) = W) : RB k rtZ sZ W ∧ Below w.heap.size w W := by
  subst h hk
  exact ⟨World.alloc_heap_new w _, (Below.refl _ _).alloc (Nat.le_refl _) _⟩
def DvPost (N : Nat) (w : World) (s : Sl) (o : Option Rt) (e : Ending) (w' : World) : Prop :=
  match o with
  | none => (∃ t s, e = .returned (.tuple #[rtV t s, .bool false])) ∧ Below w.heap.size w w'
  | some t2 => ∃ s2, e = .returned (.tuple #[rtV t2 s2, .bool true]) ∧ RO N w' t2 s2 ∧ (∀ g, Rown s2 g → Rown s g ∨ w.heap.size ≤ g) ∧ Below w.heap.size w w'
theorem dv_res {W : World} {b : Nat} {t : Rt} {s : Sl} {r : Bool} (h : RB b t s W) {tm : Array Value} (t2 : (tm[6]?).getD undef = .pointer (some ⟨b, 0, none⟩)) (t3 : (tm[7]?).getD undef = .bool r) : (results Try.f74 tm).run Try.prog W = .ok (.tuple #[rtV t s, .bool r]) W := by
  obtain ⟨c0, c1, c2, c3, c4, c5, c6, c7, c8, c9⟩ := h.rbox
  unfold rtV
  simp [results, Try.results74, go_sem, t2, t3, c0, c1, c2, c3, c4, c5, c6, c7, c8, c9]
theorem RO.bel {N : Nat} {w w' : World} {t : Rt} {s : Sl} (h : RO N w t s) (hb : Below w.heap.size w w') : RO N w' t s := h.blk (fun g _ _ hl => hb.block g hl)
/-- the boxes of pvValue -/
structure DvS (w : World) (N b3 b6 : Nat) (W : World) (t : Rt) (s : Sl) (t6 : Rt) (s6 : Sl) : Prop where
  r3 : RB b3 t s W
  r6 : RB b6 t6 s6 W
  ro : RO N W t s
  bel : Below w.heap.size w W
  h3 : w.heap.size ≤ b3
  h36 : b3 < b6
  ow : ∀ g, Rown s g → g ≠ b3 ∧ g ≠ b6
theorem dv_start {w W1 W : World} {N : Nat} {t : Rt} {s : Sl} (ho : RO N w t s) (h1 : RB w.heap.size t s W1) (hb : Below w.heap.size w W1) (hz : W1.heap.size = w.heap.size + 1) (h : W1.alloc (Obj.cells #[.int .u32 0, .int .i64 0, .slice none 0 0, .int .i64 0, .int .i64 0, .int .i64 0, .int .u32 0, .slice none 0 0, .slice none 0 0, .int .i64 0] 29) = W) : DvS w N w.heap.size (w.heap.size + 1) W t s rtZ sZ := by
  obtain ⟨h2, hb2⟩ := rb_new hz h
  refine ⟨h1.blk (hb2.block _ (by omega)), h2, (ho.bel hb).bel hb2, hb.trans (hb2.mono hb.size), Nat.le_refl _, by omega, fun g hg => ?_⟩
  have := ho.rng g hg
  omega
theorem DvS.set {w W : World} {N b3 b6 : Nat} {t t2 t6 : Rt} {s s6 : Sl} (h : DvS w N b3 b6 W t s t6 s6) (hN : N ≤ w.heap.size) (i : Nat) (v : Value) (he : (rtL t s).set i v = rtL t2 s) (hp : t2.path = t.path) (hm : t2.marks = t.marks) (hc : t2.clus = t.clus) (h0 : 0 ≤ t2.next) (h1 : t2.next < 4294967296) : DvS w N b3 b6 (W.setCell ⟨b3, i, none⟩ v) t2 s t6 s6 := by
  have hk := Ko.set W b3 i v
  have hro : RO N (W.setCell ⟨b3, i, none⟩ v) t s := h.ro.blk (fun g hg _ _ => hk.block g (h.ow g hg).1)
  exact ⟨SB.set (T := RtK) h.r3 i v he, h.r6.blk (hk.block _ (by have := h.h36; omega)), ⟨by rw [hp]; exact hro.p, by rw [hm]; exact hro.m, by rw [hc]; exact hro.c, hro.d, h0, h1⟩, h.bel.trans (hk.below h.h3), h.h3, h.h36, h.ow⟩
theorem DvS.done {w W W' : World} {N b3 b6 : Nat} {t t6 : Rt} {s s6 : Sl} (h : DvS w N b3 b6 W t s t6 s6) (hk : Ko W b6 W') : RO N W' t s ∧ Below w.heap.size w W' :=
  ⟨h.ro.blk (fun g hg _ _ => hk.block g (h.ow g hg).2), h.bel.trans (hk.below (by have := h.h3; have := h.h36; omega))⟩
theorem dv_some {w W W' : World} {N b3 b6 : Nat} {t t6 : Rt} {s s0 s6 : Sl} {o : Option Rt} (h : DvS w N b3 b6 W t s t6 s6) (hk : Ko W b6 W') (ho : o = some t) (hs : ∀ g, Rown s g → Rown s0 g ∨ w.heap.size ≤ g) : DvPost N w s0 o (.returned (.tuple #[rtV t s, .bool true])) W' := by
  subst ho
  exact ⟨s, rfl, (h.done hk).1, hs, (h.done hk).2⟩
theorem dv_none {w W W' : World} {N b3 b6 : Nat} {t t6 : Rt} {s s0 s6 : Sl} {o : Option Rt} (h : DvS w N b3 b6 W t s t6 s6) (hk : Ko W b6 W') (ho : o = none) : DvPost N w s0 o (.returned (.tuple #[rtV t s, .bool false])) W' := by
  subst ho
  exact ⟨⟨t, s, rfl⟩, (h.done hk).2⟩
set_option maxRecDepth 100000 in
set_option maxHeartbeats 8000000 in
theorem dvalue1 (N : Nat) (t : Rt) (s : Sl) (a : Option Addr) (n c : Nat) (v : List Nat) (w : World) (ho : RO N w t s) (hN : N ≤ w.heap.size) (hv : Lst E8 w a v) (hn : v.length = n) (hu : ∀ d ∈ v, d < 256) :
    Calls Try.prog 74 #[rtV t s, .int .i64 1, .slice a n c] w (DvPost N w s (setD t 1 v)) := by
  have HO : Hid (RO N w t s) := ho
  have HV : Hid (Lst E8 w a v) := hv
  have HL : Hid (v.length = n) := hn
  have HU : Hid (∀ d ∈ v, d < 256) := hu
  clear ho hv hn hu
  go_enter Try.func74, Try.ntmps74
  go_wp2_with (refine list_sbox RtK rfl _ rfl (cs := rtL t s) rfl ?_)
  intro W1 h1 hb1 hz1
  obtain ⟨W, hW⟩ : ∃ W, W1.alloc (Obj.cells #[.int .u32 0, .int .i64 0, .slice none 0 0, .int .i64 0, .int .i64 0, .int .i64 0, .int .u32 0, .slice none 0 0, .slice none 0 0, .int .i64 0] 29) = W := ⟨_, rfl⟩
  have HS : Hid (DvS w N w.heap.size (w.heap.size + 1) W t s rtZ sZ) := dv_start HO.out h1.out hb1.out hz1 hW
  clear h1 hb1
  by_cases h0 : 0 < n
  · have h0i : (0 : Int) < (n : Int) := by omega
    obtain ⟨b, o, rfl, hbl, -⟩ := lst8 HV.out 0 (by rw [HL.out]; exact h0)
    have c0 : W.cell? ⟨b, o, none⟩ = some (.int .u8 (v[0]'(by rw [HL.out]; exact h0) : Int)) := by
      obtain ⟨b', o', e, -, h6⟩ := lst8 (HV.out.bel HS.out.bel) 0 (by rw [HL.out]; exact h0)
      cases e
      simpa using h6
    obtain ⟨q, hq⟩ : ∃ q, v[0]'(by rw [HL.out]; exact h0) = q := ⟨_, rfl⟩
    have hq8 : q < 256 := by rw [← hq]; exact HU.out _ (List.getElem_mem _)
    rw [hq] at c0
    have HQ1 : Hid (setD t 1 v = some { t with org := (q : Int) }) := by
      show _ = _
      unfold setD
      rw [if_neg (by simp [four])]
      unfold setA
      rw [if_pos rfl, rd_yes (by rw [HL.out]; exact h0)]
      have h5 := num_take v 0 (by rw [HL.out]; exact h0)
      rw [hq] at h5
      simp [num] at h5
      simp [h5, num]
    have hwt : IntKind.i64.wrap (q : Int) = (q : Int) := by rw [IntWalk.i64_in _ (by omega)]
    have f3 : W.frozen? ⟨w.heap.size, 3, none⟩ = false := HS.out.r3.fro 3
    have c3 : W.cell? ⟨w.heap.size, 3, none⟩ = some (.int .i64 t.org) := HS.out.r3.cell 3
    have HS2 : Hid (DvS w N w.heap.size (w.heap.size + 1) (W.setCell ⟨w.heap.size, 3, none⟩ (.int .i64 (q : Int))) { t with org := (q : Int) } s rtZ sZ) := HS.out.set hN 3 _ rfl rfl rfl rfl HS.out.ro.n0 HS.out.ro.n1
    clear hq
    go_wp2_with (first | (refine list_sload RtK rfl _ rfl (b := w.heap.size) (cs := rtL { t with org := (q : Int) } s) rfl HS2.out.r3 rfl ?_) | (refine list_sstore RtK rfl _ _ rfl (b := w.heap.size + 1) (cs := rtL rtZ sZ) (cs' := rtL { t with org := (q : Int) } s) rfl rfl HS2.out.r6 rfl rfl rfl ?_))
    intro W5 hm5 hk5
    have HQ := dv_some (s0 := s) HS2.out hk5.out HQ1.out (fun _ h => .inl h)
    clear hk5 HS2 HS
    go_wp2_with fail
    exact bodyPost_ret (dv_res hm5.out rfl rfl) rfl HQ
  · have h0i : ¬ (0 : Int) < (n : Int) := by omega
    have HQ1 : Hid (setD t 1 v = none) := by
      show _ = _
      unfold setD
      rw [if_neg (by simp [four])]
      unfold setA
      rw [if_pos rfl, rd_no (by rw [HL.out]; omega)]
      rfl
    go_wp2_with (first | (refine list_sload RtK rfl _ rfl (b := w.heap.size) (cs := rtL t s) rfl HS.out.r3 rfl ?_) | (refine list_sstore RtK rfl _ _ rfl (b := w.heap.size + 1) (cs := rtL rtZ sZ) (cs' := rtL t s) rfl rfl HS.out.r6 rfl rfl rfl ?_))
    intro W5 hm5 hk5
    have HQ := dv_none (s0 := s) HS.out hk5.out HQ1.out
    clear hk5 HS
    go_wp2_with fail
    exact bodyPost_ret (dv_res hm5.out rfl rfl) rfl HQ
/-! kinds other than 1 -/
theorem DvS.bel2 {w W W' : World} {N b3 b6 : Nat} {t t6 : Rt} {s s6 : Sl} (h : DvS w N b3 b6 W t s t6 s6) (hb : Below W.heap.size W W') : DvS w N b3 b6 W' t s t6 s6 :=
  ⟨h.r3.blk (hb.block _ h.r3.lt), h.r6.blk (hb.block _ h.r6.lt), h.ro.bel hb, h.bel.trans (hb.mono h.bel.size), h.h3, h.h36, h.ow⟩
theorem DvS.setL {w W : World} {N b3 b6 : Nat} {t t2 t6 : Rt} {s s2 s6 : Sl} (h : DvS w N b3 b6 W t s t6 s6) (i : Nat) (v : Value) (he : (rtL t s).set i v = rtL t2 s2) (hro : RO N W t2 s2) (how : ∀ g, Rown s2 g → g ≠ b3 ∧ g ≠ b6) : DvS w N b3 b6 (W.setCell ⟨b3, i, none⟩ v) t2 s2 t6 s6 := by
  have hk := Ko.set W b3 i v
  exact ⟨SB.set (T := RtK) h.r3 i v he, h.r6.blk (hk.block _ (by have := h.h36; omega)), hro.blk (fun g hg _ _ => hk.block g (how g hg).1), h.bel.trans (hk.below h.h3), h.h3, h.h36, how⟩
theorem setD_mod {t : Rt} {k : Nat} {v : List Nat} (h1 : ¬ k = 1) (h4 : ¬ v.length % 4 = 0) : setD t k v = none := by
  unfold setD
  by_cases hf : four k = true
  · rw [if_pos ⟨hf, fun e => h4 (by rw [e])⟩]
  · rw [if_neg (fun c => hf c.1)]
    have hf' : ¬ (k = 3 ∨ k = 4 ∨ k = 5 ∨ k = 7) := fun c => hf (four_iff.2 c)
    have hw : rwords v = none := by unfold rwords; rw [if_neg h4]
    unfold setA
    rw [if_neg h1, hw]
    by_cases h2 : k = 2
    · rw [if_pos h2]; rfl
    · rw [if_neg h2, if_neg (by omega), if_neg (by omega), if_neg (by omega)]
      by_cases h6 : k = 6
      · rw [if_pos h6]; rfl
      · rw [if_neg h6, if_neg (by omega)]
        by_cases h8 : k = 8
        · rw [if_pos h8]; rfl
        · rw [if_neg h8]
theorem setD_else {t : Rt} {k : Nat} {v : List Nat} (h1 : ¬ k = 1) (h2 : ¬ k = 2) (h6 : ¬ k = 6) (h8 : ¬ k = 8) (h : ¬ (k = 3 ∨ k = 4 ∨ k = 5 ∨ k = 7) ∨ ¬ v.length = 4) : setD t k v = none := by
  unfold setD
  rcases h with h | h
  · rw [if_neg (fun c => h (four_iff.1 c.1))]
    unfold setA
    rw [if_neg h1, if_neg h2, if_neg (by omega), if_neg (by omega), if_neg (by omega), if_neg h6, if_neg (by omega), if_neg h8]
  · by_cases hf : four k = true
    · rw [if_pos ⟨hf, h⟩]
    · rw [if_neg (fun c => hf c.1)]
      have hf' : ¬ (k = 3 ∨ k = 4 ∨ k = 5 ∨ k = 7) := fun c => hf (four_iff.2 c)
      unfold setA
      rw [if_neg h1, if_neg h2, if_neg (by omega), if_neg (by omega), if_neg (by omega), if_neg h6, if_neg (by omega), if_neg h8]
theorem setD_2 {t : Rt} {v : List Nat} {n : Nat} (hn : v.length = n) (h4 : n % 4 = 0) : setD t 2 v = some { t with path := wds v (n / 4) } := by
  unfold setD
  rw [if_neg (by simp [four])]
  unfold setA rwords
  simp [hn, h4]
theorem setD_6 {t : Rt} {v : List Nat} {n : Nat} (hn : v.length = n) (h4 : n % 4 = 0) : setD t 6 v = some { t with marks := wds v (n / 4) } := by
  unfold setD
  rw [if_neg (by simp [four])]
  unfold setA rwords
  simp [hn, h4]
theorem setD_8 {t : Rt} {v : List Nat} {n : Nat} (hn : v.length = n) (h4 : n % 4 = 0) : setD t 8 v = some { t with clus := wds v (n / 4) } := by
  unfold setD
  rw [if_neg (by simp [four])]
  unfold setA rwords
  simp [hn, h4]
theorem setD_3 {t : Rt} {v : List Nat} (hn : v.length = 4) : setD t 3 v = some { t with next := (num v : Int) } := by
  unfold setD
  rw [if_neg (by simp [hn])]
  unfold setA
  simp [rd_yes (show 4 ≤ v.length by omega), List.take_of_length_le (show v.length ≤ 4 by omega)]
theorem setD_4 {t : Rt} {v : List Nat} (hn : v.length = 4) : setD t 4 v = some { t with med := (num v : Int) } := by
  unfold setD
  rw [if_neg (by simp [hn])]
  unfold setA
  simp [rd_yes (show 4 ≤ v.length by omega), List.take_of_length_le (show v.length ≤ 4 by omega)]
theorem setD_5 {t : Rt} {v : List Nat} (hn : v.length = 4) : setD t 5 v = some { t with pref := (num v : Int) } := by
  unfold setD
  rw [if_neg (by simp [hn])]
  unfold setA
  simp [rd_yes (show 4 ≤ v.length by omega), List.take_of_length_le (show v.length ≤ 4 by omega)]
theorem setD_7 {t : Rt} {v : List Nat} (hn : v.length = 4) : setD t 7 v = some { t with auth := (num v : Int) } := by
  unfold setD
  rw [if_neg (by simp [hn])]
  unfold setA
  simp [rd_yes (show 4 ≤ v.length by omega), List.take_of_length_le (show v.length ≤ 4 by omega)]
theorem bfalse {a b : Int} (h : ¬ a = b) : (a == b) = false := by simpa using h
set_option maxRecDepth 100000 in
set_option maxHeartbeats 16000000 in
theorem dvalue2 (N : Nat) (t : Rt) (s : Sl) (kind : Nat) (hk1 : ¬ kind = 1) (a : Option Addr) (n c : Nat) (v : List Nat) (w : World) (ho : RO N w t s) (hN : N ≤ w.heap.size) (hv : Lst E8 w a v) (hn : v.length = n) (hu : ∀ d ∈ v, d < 256) (hc : n ≤ c) (hbig : n ≤ 1048576) :
    Calls Try.prog 74 #[rtV t s, .int .i64 (kind : Int), .slice a n c] w (DvPost N w s (setD t kind v)) := by
  have HO : Hid (RO N w t s) := ho
  have HV : Hid (Lst E8 w a v) := hv
  have HL : Hid (v.length = n) := hn
  have HU : Hid (∀ d ∈ v, d < 256) := hu
  obtain ⟨q, hq⟩ : ∃ q : Int, (kind : Int) = q := ⟨_, rfl⟩
  have HQ : Hid ((kind : Int) = q) := hq
  have HK1 : Hid (¬ kind = 1) := hk1
  have b1 : (q == 1) = false := bfalse (by omega)
  rw [hq]
  clear ho hv hn hu hq hk1
  go_enter Try.func74, Try.ntmps74
  go_wp2_with (refine list_sbox RtK rfl _ rfl (cs := rtL t s) rfl ?_)
  intro W1 h1 hb1 hz1
  obtain ⟨W, hW⟩ : ∃ W, W1.alloc (Obj.cells #[.int .u32 0, .int .i64 0, .slice none 0 0, .int .i64 0, .int .i64 0, .int .i64 0, .int .u32 0, .slice none 0 0, .slice none 0 0, .int .i64 0] 29) = W := ⟨_, rfl⟩
  have HS : Hid (DvS w N w.heap.size (w.heap.size + 1) W t s rtZ sZ) := dv_start HO.out h1.out hb1.out hz1 hW
  clear h1 hb1
  by_cases h4 : n % 4 = 0
  · have h4i : (n : Int) % 4 = 0 := by omega
    have h4t : (n : Int).tmod 4 = 0 := by rw [Int.tmod_eq_emod_of_nonneg (by omega)]; exact h4i
    go_wp2_with fail
    have HVW : Hid (Lst E8 W a v) := HV.out.bel HS.out.bel
    clear hW hz1
    go_loopw [9, 8] (fun iv lv wr => ∃ j : Nat, 4 * j ≤ n ∧ iv = .int .i64 ((4 * j : Nat) : Int) ∧ OwnL EI W.heap.size wr lv (wds v j) ∧ Below W.heap.size W wr) (fun i _ _ => n - (intOf i).toNat)
    case atStart => exact ⟨0, by omega, by simp, OwnL.nil _ _ _, Below.refl _ _⟩
    case round =>
      obtain ⟨j, hj, rfl, ho, hb⟩ := hrel
      have HO2 : Hid (OwnL EI W.heap.size wr u8 (wds v j)) := ho
      have HB2 : Hid (Below W.heap.size W wr) := hb
      obtain ⟨p, hp⟩ : ∃ p, 4 * j = p := ⟨_, rfl⟩
      have HP : Hid (4 * j = p) := hp
      rw [hp] at hj ⊢
      clear ho hb hp
      by_cases hlt : p < n
      · have hp4 : p + 4 ≤ n := by have := HP.out; omega
        have hlti : (p : Int) < (n : Int) := by omega
        obtain ⟨b, o, rfl, hbl, -⟩ := lst8 HVW.out 0 (by rw [HL.out]; omega)
        have hcp : ¬ c = p := by omega
        have hcpi : ¬ (c : Int) = (p : Int) := by omega
        have hpc : (p : Int) + 4 ≤ (c : Int) := by omega
        have HX : Hid (Lst E8 wr (some ⟨b, o + p, none⟩) ((v.drop p).take 4)) := by
          have h5 := ((HVW.out.bel HB2.out).drop p).take 4
          have h6 : o + p * E8.k = o + p := by show o + p * 1 = o + p; omega
          rw [h6] at h5
          exact h5
        have HXL : Hid (((v.drop p).take 4).length = 4) := by show _ = _; rw [List.length_take, List.length_drop, HL.out]; omega
        have HXU : Hid (∀ d ∈ (v.drop p).take 4, d < 256) := fun d hd => HU.out d (List.mem_of_mem_drop (List.mem_of_mem_take hd))
        obtain ⟨y, hy⟩ : ∃ y, num ((v.drop p).take 4) = y := ⟨_, rfl⟩
        have HWD : Hid (wds v (j + 1) = wds v j ++ [(y : Int)]) := by show _ = _; rw [wds_snoc]; unfold wd; rw [HP.out, hy]
        have HDN := dnum_any (some ⟨b, o + p, none⟩) 4 (c - p) _ wr HX.out HXL.out HXU.out (by omega)
        rw [hy] at HDN
        have HDH : Hid (Calls Try.prog 25 #[.slice (some ⟨b, o + p, none⟩) 4 (c - p)] wr fun e w' => e = .returned (.int .i64 (y : Int)) ∧ w' = wr) := HDN
        obtain ⟨V, hV⟩ : ∃ V, wr.alloc (Obj.cells #[.int .i64 (y : Int)] 3) = V := ⟨_, rfl⟩
        have HVE : Hid (wr.alloc (Obj.cells (EI.enc (y : Int)).toArray EI.e) = V) := hV
        have hbl1 : Below wr.heap.size wr V := by rw [← hV]; exact (Below.refl _ wr).alloc (Nat.le_refl _) _
        have HVA : Hid (OwnL EI W.heap.size V u8 (wds v j)) := HO2.out.bel hbl1
        have HVB : Hid (Below W.heap.size W V) := HB2.out.trans (hbl1.mono HB2.out.size)
        have HNW : Hid (W.heap.size ≤ V.heap.size) := HVB.out.size
        have HBY : Hid ((wds v j).length ≤ 1099511627775) := by show _ ≤ _; rw [wds_len]; have := HP.out; omega
        clear hbl1 hy HDN HX HXL HXU
        go_wp2_with (first | (go_at_call 25; refine HDH.out.mono ?_; rintro e w' ⟨rfl, hw'⟩; rw [hw']; clear hw' w') | (at_builtin; refine list_app1 EI rfl _ _ 27 rfl rfl W.heap.size u8 (wds v j) (y : Int) HBY.out (w := wr) V rfl HVA.out rfl HNW.out HVE.out.symm ?_))
        intro v10 w10 ho10 hg10 ha10
        have HO10 : Hid (OwnL EI W.heap.size w10 v10 (wds v (j + 1))) := by rw [HWD.out]; exact ho10
        have HB10 : Hid (Below W.heap.size W w10) := HVB.out.grown hg10.out HNW.out (fun g e => (HVA.out.row.lt g e).1)
        clear ho10 hg10 ha10 HDH HVA HVB HVE
        go_wp2_with fail
        exact ⟨⟨j + 1, by have := HP.out; omega, by rw [show 4 * (j + 1) = p + 4 by have := HP.out; omega]; simp, HO10.out, HB10.out⟩, by simp [intOf]; omega⟩
      · obtain rfl : p = n := by omega
        have hlti : ¬ (p : Int) < (p : Int) := by omega
        have HJ4 : Hid (j = p / 4) := by show _ = _; have := HP.out; omega
        obtain ⟨la, lc, hv8, -, hnl, -⟩ := HO2.out.form
        rw [wds_len] at hv8
        subst hv8
        have HS3 : Hid (DvS w N w.heap.size (w.heap.size + 1) wr t s rtZ sZ) := HS.out.bel2 HB2.out
        have HOWN : Hid (∀ g, ob la = some g → W.heap.size ≤ g ∧ g < wr.heap.size) := own_obr HO2.out
        have hWs : w.heap.size + 1 < W.heap.size := HS.out.r6.lt
        clear hnl
        by_cases k2 : q = 2
        · subst k2
          have hkk : kind = 2 := by have := HQ.out; omega
          have HSD : Hid (setD t kind v = some { t with path := wds v j }) := by show _ = _; rw [hkk, HJ4.out]; exact setD_2 HL.out h4
          have HRO : Hid (RO N wr { t with path := wds v j } { s with p := la, pc := lc }) := HS.out.ro.setp HS3.out.ro (Nat.le_trans hN HS.out.bel.size) (by rw [wds_len]; exact HO2.out)
          have HRW : Hid (∀ g, Rown { s with p := la, pc := lc } g → Rown s g ∨ ob la = some g) := by
            intro g hg
            unfold Rown at hg ⊢
            simp only at hg
            rcases hg with h | h | h <;> simp [h]
          have HS4 : Hid (DvS w N w.heap.size (w.heap.size + 1) (wr.setCell ⟨w.heap.size, 2, none⟩ (.slice la j lc)) { t with path := wds v j } { s with p := la, pc := lc } rtZ sZ) := by
            refine HS3.out.setL 2 _ ?_ HRO.out ?_
            · simp [rtL, wds_len]
            · intro g hg
              rcases HRW.out g hg with h | h
              · exact HS3.out.ow g h
              · have := HOWN.out g h
                omega
          have f3 : wr.frozen? ⟨w.heap.size, 2, none⟩ = false := HS3.out.r3.fro 2
          have c3 : wr.cell? ⟨w.heap.size, 2, none⟩ = some _ := HS3.out.r3.cell 2
          clear hkk HRO HS3
          go_wp2_with (first | (refine list_sload RtK rfl _ rfl (b := w.heap.size) (cs := rtL { t with path := wds v j } { s with p := la, pc := lc }) rfl HS4.out.r3 rfl ?_) | (refine list_sstore RtK rfl _ _ rfl (b := w.heap.size + 1) (cs := rtL rtZ sZ) (cs' := rtL { t with path := wds v j } { s with p := la, pc := lc }) rfl rfl HS4.out.r6 rfl rfl rfl ?_))
          intro W5 hm5 hk5
          have HQ5 := dv_some (s0 := s) HS4.out hk5.out HSD.out (fun g hg => (HRW.out g hg).imp id (fun h => by have := HOWN.out g h; omega))
          clear hk5 HS4 HS
          go_wp2_with fail
          exact bodyPost_ret (dv_res hm5.out rfl rfl) rfl HQ5
        have b2 : (q == 2) = false := bfalse k2
        by_cases k6 : q = 6
        · subst k6
          have hkk : kind = 6 := by have := HQ.out; omega
          have HSD : Hid (setD t kind v = some { t with marks := wds v j }) := by show _ = _; rw [hkk, HJ4.out]; exact setD_6 HL.out h4
          have HRO : Hid (RO N wr { t with marks := wds v j } { s with m := la, mc := lc }) := HS.out.ro.setm HS3.out.ro (Nat.le_trans hN HS.out.bel.size) (by rw [wds_len]; exact HO2.out)
          have HRW : Hid (∀ g, Rown { s with m := la, mc := lc } g → Rown s g ∨ ob la = some g) := by
            intro g hg
            unfold Rown at hg ⊢
            simp only at hg
            rcases hg with h | h | h <;> simp [h]
          have HS4 : Hid (DvS w N w.heap.size (w.heap.size + 1) (wr.setCell ⟨w.heap.size, 7, none⟩ (.slice la j lc)) { t with marks := wds v j } { s with m := la, mc := lc } rtZ sZ) := by
            refine HS3.out.setL 7 _ ?_ HRO.out ?_
            · simp [rtL, wds_len]
            · intro g hg
              rcases HRW.out g hg with h | h
              · exact HS3.out.ow g h
              · have := HOWN.out g h
                omega
          have f3 : wr.frozen? ⟨w.heap.size, 7, none⟩ = false := HS3.out.r3.fro 7
          have c3 : wr.cell? ⟨w.heap.size, 7, none⟩ = some _ := HS3.out.r3.cell 7
          clear hkk HRO HS3
          go_wp2_with (first | (refine list_sload RtK rfl _ rfl (b := w.heap.size) (cs := rtL { t with marks := wds v j } { s with m := la, mc := lc }) rfl HS4.out.r3 rfl ?_) | (refine list_sstore RtK rfl _ _ rfl (b := w.heap.size + 1) (cs := rtL rtZ sZ) (cs' := rtL { t with marks := wds v j } { s with m := la, mc := lc }) rfl rfl HS4.out.r6 rfl rfl rfl ?_))
          intro W5 hm5 hk5
          have HQ5 := dv_some (s0 := s) HS4.out hk5.out HSD.out (fun g hg => (HRW.out g hg).imp id (fun h => by have := HOWN.out g h; omega))
          clear hk5 HS4 HS
          go_wp2_with fail
          exact bodyPost_ret (dv_res hm5.out rfl rfl) rfl HQ5
        have b6 : (q == 6) = false := bfalse k6
        by_cases k8 : q = 8
        · subst k8
          have hkk : kind = 8 := by have := HQ.out; omega
          have HSD : Hid (setD t kind v = some { t with clus := wds v j }) := by show _ = _; rw [hkk, HJ4.out]; exact setD_8 HL.out h4
          have HRO : Hid (RO N wr { t with clus := wds v j } { s with c := la, cc := lc }) := HS.out.ro.setc HS3.out.ro (Nat.le_trans hN HS.out.bel.size) (by rw [wds_len]; exact HO2.out)
          have HRW : Hid (∀ g, Rown { s with c := la, cc := lc } g → Rown s g ∨ ob la = some g) := by
            intro g hg
            unfold Rown at hg ⊢
            simp only at hg
            rcases hg with h | h | h <;> simp [h]
          have HS4 : Hid (DvS w N w.heap.size (w.heap.size + 1) (wr.setCell ⟨w.heap.size, 8, none⟩ (.slice la j lc)) { t with clus := wds v j } { s with c := la, cc := lc } rtZ sZ) := by
            refine HS3.out.setL 8 _ ?_ HRO.out ?_
            · simp [rtL, wds_len]
            · intro g hg
              rcases HRW.out g hg with h | h
              · exact HS3.out.ow g h
              · have := HOWN.out g h
                omega
          have f3 : wr.frozen? ⟨w.heap.size, 8, none⟩ = false := HS3.out.r3.fro 8
          have c3 : wr.cell? ⟨w.heap.size, 8, none⟩ = some _ := HS3.out.r3.cell 8
          clear hkk HRO HS3
          go_wp2_with (first | (refine list_sload RtK rfl _ rfl (b := w.heap.size) (cs := rtL { t with clus := wds v j } { s with c := la, cc := lc }) rfl HS4.out.r3 rfl ?_) | (refine list_sstore RtK rfl _ _ rfl (b := w.heap.size + 1) (cs := rtL rtZ sZ) (cs' := rtL { t with clus := wds v j } { s with c := la, cc := lc }) rfl rfl HS4.out.r6 rfl rfl rfl ?_))
          intro W5 hm5 hk5
          have HQ5 := dv_some (s0 := s) HS4.out hk5.out HSD.out (fun g hg => (HRW.out g hg).imp id (fun h => by have := HOWN.out g h; omega))
          clear hk5 HS4 HS
          go_wp2_with fail
          exact bodyPost_ret (dv_res hm5.out rfl rfl) rfl HQ5
        have b8 : (q == 8) = false := bfalse k8
        have HKN : Hid (¬ kind = 2 ∧ ¬ kind = 6 ∧ ¬ kind = 8) := by show _ ∧ _; have := HQ.out; omega
        by_cases hn4 : p = 4
        · subst hn4
          obtain rfl : j = 1 := by have := HJ4.out; omega
          obtain ⟨lb, lo, rfl, hlbl, cl0⟩ := lstI HO2.out.lst.1 0 (by rw [wds_len]; omega)
          have hwd : (wds v 1)[0]'(by rw [wds_len]; omega) = (num v : Int) := by
            simp [wds, wd, List.take_of_length_le (show v.length ≤ 4 by rw [HL.out]; exact Nat.le_refl _)]
          rw [hwd, Nat.add_zero] at cl0
          have hnum : num v < 4294967296 := by
            have h5 := (num_ltk HU.out 4 (by rw [HL.out]; exact Nat.le_refl _) (by omega)).1
            rw [List.take_of_length_le (by rw [HL.out]; exact Nat.le_refl _)] at h5
            exact h5
          have HNV : Hid (∃ y : Nat, num v = y) := ⟨_, rfl⟩
          obtain ⟨y, hy⟩ := HNV.out
          have HY : Hid (num v = y) := hy
          rw [hy] at cl0 hnum
          have hyw : IntKind.u32.wrap (y : Int) = (y : Int) := by rw [IntKind.wrap_u32]; omega
          have hym : (y : Int) % 4294967296 = (y : Int) := by omega
          clear hwd hy HNV
          by_cases k3 : q = 3
          · subst k3
            have hkk : kind = 3 := by have := HQ.out; omega
            have HSD : Hid (setD t kind v = some { t with next := (y : Int) }) := by show _ = _; rw [hkk, ← HY.out]; exact setD_3 HL.out
            have HS4 : Hid (DvS w N w.heap.size (w.heap.size + 1) (wr.setCell ⟨w.heap.size, 6, none⟩ (.int .u32 (y : Int))) { t with next := (y : Int) } s rtZ sZ) := HS3.out.set hN 6 _ rfl rfl rfl rfl (show (0 : Int) ≤ (y : Int) by omega) (show (y : Int) < 4294967296 by omega)
            have f3 : wr.frozen? ⟨w.heap.size, 6, none⟩ = false := HS3.out.r3.fro 6
            have c3 : wr.cell? ⟨w.heap.size, 6, none⟩ = some _ := HS3.out.r3.cell 6
            clear hkk HS3
            go_wp2_with (first | (refine list_sload RtK rfl _ rfl (b := w.heap.size) (cs := rtL { t with next := (y : Int) } s) rfl HS4.out.r3 rfl ?_) | (refine list_sstore RtK rfl _ _ rfl (b := w.heap.size + 1) (cs := rtL rtZ sZ) (cs' := rtL { t with next := (y : Int) } s) rfl rfl HS4.out.r6 rfl rfl rfl ?_))
            intro W5 hm5 hk5
            have HQ5 := dv_some (s0 := s) HS4.out hk5.out HSD.out (fun _ h => .inl h)
            clear hk5 HS4 HS
            go_wp2_with fail
            exact bodyPost_ret (dv_res hm5.out rfl rfl) rfl HQ5
          have b3 : (q == 3) = false := bfalse k3
          by_cases k4 : q = 4
          · subst k4
            have hkk : kind = 4 := by have := HQ.out; omega
            have HSD : Hid (setD t kind v = some { t with med := (y : Int) }) := by show _ = _; rw [hkk, ← HY.out]; exact setD_4 HL.out
            have HS4 : Hid (DvS w N w.heap.size (w.heap.size + 1) (wr.setCell ⟨w.heap.size, 5, none⟩ (.int .i64 (y : Int))) { t with med := (y : Int) } s rtZ sZ) := HS3.out.set hN 5 _ rfl rfl rfl rfl HS3.out.ro.n0 HS3.out.ro.n1
            have f3 : wr.frozen? ⟨w.heap.size, 5, none⟩ = false := HS3.out.r3.fro 5
            have c3 : wr.cell? ⟨w.heap.size, 5, none⟩ = some _ := HS3.out.r3.cell 5
            clear hkk HS3
            go_wp2_with (first | (refine list_sload RtK rfl _ rfl (b := w.heap.size) (cs := rtL { t with med := (y : Int) } s) rfl HS4.out.r3 rfl ?_) | (refine list_sstore RtK rfl _ _ rfl (b := w.heap.size + 1) (cs := rtL rtZ sZ) (cs' := rtL { t with med := (y : Int) } s) rfl rfl HS4.out.r6 rfl rfl rfl ?_))
            intro W5 hm5 hk5
            have HQ5 := dv_some (s0 := s) HS4.out hk5.out HSD.out (fun _ h => .inl h)
            clear hk5 HS4 HS
            go_wp2_with fail
            exact bodyPost_ret (dv_res hm5.out rfl rfl) rfl HQ5
          have b4 : (q == 4) = false := bfalse k4
          by_cases k5 : q = 5
          · subst k5
            have hkk : kind = 5 := by have := HQ.out; omega
            have HSD : Hid (setD t kind v = some { t with pref := (y : Int) }) := by show _ = _; rw [hkk, ← HY.out]; exact setD_5 HL.out
            have HS4 : Hid (DvS w N w.heap.size (w.heap.size + 1) (wr.setCell ⟨w.heap.size, 4, none⟩ (.int .i64 (y : Int))) { t with pref := (y : Int) } s rtZ sZ) := HS3.out.set hN 4 _ rfl rfl rfl rfl HS3.out.ro.n0 HS3.out.ro.n1
            have f3 : wr.frozen? ⟨w.heap.size, 4, none⟩ = false := HS3.out.r3.fro 4
            have c3 : wr.cell? ⟨w.heap.size, 4, none⟩ = some _ := HS3.out.r3.cell 4
            clear hkk HS3
            go_wp2_with (first | (refine list_sload RtK rfl _ rfl (b := w.heap.size) (cs := rtL { t with pref := (y : Int) } s) rfl HS4.out.r3 rfl ?_) | (refine list_sstore RtK rfl _ _ rfl (b := w.heap.size + 1) (cs := rtL rtZ sZ) (cs' := rtL { t with pref := (y : Int) } s) rfl rfl HS4.out.r6 rfl rfl rfl ?_))
            intro W5 hm5 hk5
            have HQ5 := dv_some (s0 := s) HS4.out hk5.out HSD.out (fun _ h => .inl h)
            clear hk5 HS4 HS
            go_wp2_with fail
            exact bodyPost_ret (dv_res hm5.out rfl rfl) rfl HQ5
          have b5 : (q == 5) = false := bfalse k5
          by_cases k7 : q = 7
          · subst k7
            have hkk : kind = 7 := by have := HQ.out; omega
            have HSD : Hid (setD t kind v = some { t with auth := (y : Int) }) := by show _ = _; rw [hkk, ← HY.out]; exact setD_7 HL.out
            have HS4 : Hid (DvS w N w.heap.size (w.heap.size + 1) (wr.setCell ⟨w.heap.size, 9, none⟩ (.int .i64 (y : Int))) { t with auth := (y : Int) } s rtZ sZ) := HS3.out.set hN 9 _ rfl rfl rfl rfl HS3.out.ro.n0 HS3.out.ro.n1
            have f3 : wr.frozen? ⟨w.heap.size, 9, none⟩ = false := HS3.out.r3.fro 9
            have c3 : wr.cell? ⟨w.heap.size, 9, none⟩ = some _ := HS3.out.r3.cell 9
            clear hkk HS3
            go_wp2_with (first | (refine list_sload RtK rfl _ rfl (b := w.heap.size) (cs := rtL { t with auth := (y : Int) } s) rfl HS4.out.r3 rfl ?_) | (refine list_sstore RtK rfl _ _ rfl (b := w.heap.size + 1) (cs := rtL rtZ sZ) (cs' := rtL { t with auth := (y : Int) } s) rfl rfl HS4.out.r6 rfl rfl rfl ?_))
            intro W5 hm5 hk5
            have HQ5 := dv_some (s0 := s) HS4.out hk5.out HSD.out (fun _ h => .inl h)
            clear hk5 HS4 HS
            go_wp2_with fail
            exact bodyPost_ret (dv_res hm5.out rfl rfl) rfl HQ5
          have b7 : (q == 7) = false := bfalse k7
          have HSD : Hid (setD t kind v = none) := setD_else HK1.out HKN.out.1 HKN.out.2.1 HKN.out.2.2 (.inl (by have := HQ.out; omega))
          go_wp2_with (first | (refine list_sload RtK rfl _ rfl (b := w.heap.size) (cs := rtL t s) rfl HS3.out.r3 rfl ?_) | (refine list_sstore RtK rfl _ _ rfl (b := w.heap.size + 1) (cs := rtL rtZ sZ) (cs' := rtL t s) rfl rfl HS3.out.r6 rfl rfl rfl ?_))
          intro W5 hm5 hk5
          have HQ5 := dv_none (s0 := s) HS3.out hk5.out HSD.out
          clear hk5 HS3
          go_wp2_with fail
          exact bodyPost_ret (dv_res hm5.out rfl rfl) rfl HQ5
        · have hj1 : ¬ (j : Int) = 1 := by have := HJ4.out; omega
          have hj1b : ((j : Int) != 1) = true := by simpa using hj1
          have HSD : Hid (setD t kind v = none) := setD_else HK1.out HKN.out.1 HKN.out.2.1 HKN.out.2.2 (.inr (by rw [HL.out]; exact hn4))
          go_wp2_with (first | (refine list_sload RtK rfl _ rfl (b := w.heap.size) (cs := rtL t s) rfl HS3.out.r3 rfl ?_) | (refine list_sstore RtK rfl _ _ rfl (b := w.heap.size + 1) (cs := rtL rtZ sZ) (cs' := rtL t s) rfl rfl HS3.out.r6 rfl rfl rfl ?_))
          intro W5 hm5 hk5
          have HQ5 := dv_none (s0 := s) HS3.out hk5.out HSD.out
          clear hk5 HS3
          go_wp2_with fail
          exact bodyPost_ret (dv_res hm5.out rfl rfl) rfl HQ5
  · have h4i : ¬ (n : Int) % 4 = 0 := by omega
    have h4t : ¬ (n : Int).tmod 4 = 0 := by rw [Int.tmod_eq_emod_of_nonneg (by omega)]; exact h4i
    have HSD : Hid (setD t kind v = none) := setD_mod HK1.out (by rw [HL.out]; exact h4)
    go_wp2_with (first | (refine list_sload RtK rfl _ rfl (b := w.heap.size) (cs := rtL t s) rfl HS.out.r3 rfl ?_) | (refine list_sstore RtK rfl _ _ rfl (b := w.heap.size + 1) (cs := rtL rtZ sZ) (cs' := rtL t s) rfl rfl HS.out.r6 rfl rfl rfl ?_))
    intro W5 hm5 hk5
    have HQ5 := dv_none (s0 := s) HS.out hk5.out HSD.out
    clear hk5 HS
    go_wp2_with fail
    exact bodyPost_ret (dv_res hm5.out rfl rfl) rfl HQ5
theorem dvalue_any (N : Nat) (t : Rt) (s : Sl) (kind : Nat) (a : Option Addr) (n c : Nat) (v : List Nat) (w : World) (ho : RO N w t s) (hN : N ≤ w.heap.size) (hv : Lst E8 w a v) (hn : v.length = n) (hu : ∀ d ∈ v, d < 256) (hc : n ≤ c) (hbig : n ≤ 1048576) :
    Calls Try.prog 74 #[rtV t s, .int .i64 (kind : Int), .slice a n c] w (DvPost N w s (setD t kind v)) := by
  by_cases h1 : kind = 1
  · subst h1
    exact dvalue1 N t s a n c v w ho hN hv hn hu
  · exact dvalue2 N t s kind h1 a n c v w ho hN hv hn hu hc hbig
end Go.Proofs.Ytghlgkpfcpcopaa.Pv
