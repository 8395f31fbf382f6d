/- The document's attributes. -/
import Derived.Test.YtghlgkpfcpcopaaMgB
import Derived.StillTailTactics
namespace Go.Proofs.Ytghlgkpfcpcopaa.Pv
open Go.ChangeShapes Go.WideShapes Go.ChangeAt Go.RowKit Go.Joins Go.Proofs.Ytghlgkpfcpcopaa.PM Go.Proofs.Ytghlgkpfcpcopaa.Ask Go.Proofs.Ytghlgkpfcpcopaa.Ge
set_option linter.unusedVariables false

def DsPost (w : World) (o : Option (Rt × List Nat)) (e : Ending) (w' : World) : Prop :=
  match o with
  | none => (∃ t s, e = .returned (.tuple #[rtV t s, .slice none 0 0, .bool false])) ∧ Below w.heap.size w w'
  | some (t, kp) => ∃ s kv, e = .returned (.tuple #[rtV t s, kv, .bool true]) ∧ RO w.heap.size w' t s ∧ OwnL E8 w.heap.size w' kv kp ∧ Below w.heap.size w w'
theorem RO.mono {N N' : Nat} {w : World} {t : Rt} {s : Sl} (h : RO N w t s) (hn : N' ≤ N) : RO N' w t s := ⟨h.p.mono hn, h.m.mono hn, h.c.mono hn, h.d, h.n0, h.n1⟩
theorem RO.zero (N : Nat) (w : World) : RO N w rtZ sZ := ⟨OwnL.nil _ _ _, OwnL.nil _ _ _, OwnL.nil _ _ _, dis3.2 ⟨(fun _ e => by cases e), (fun _ e => by cases e), (fun _ e => by cases e)⟩, by decide, by decide⟩
theorem ds_res {W : World} {b : Nat} {t : Rt} {s : Sl} {kv : Value} {r : Bool} (h : RB b t s W) {tm : Array Value} (t2 : (tm[2]?).getD undef = .pointer (some ⟨b, 0, none⟩)) (t3 : (tm[3]?).getD undef = kv) (t4 : (tm[4]?).getD undef = .bool r) : (results Try.f45 tm).run Try.prog W = .ok (.tuple #[rtV t s, kv, .bool r]) W := by
  obtain ⟨c0, c1, c2, c3, c4, c5, c6, c7, c8, c9⟩ := h.rbox
  unfold rtV
  simp [results, Try.results45, go_sem, t2, t3, t4, c0, c1, c2, c3, c4, c5, c6, c7, c8, c9]
theorem ralloc_run {o : Oper} {ρ : Operand → Value} {W : World} (ho : o.op = .alloc 29) : (execOp ρ o).run Try.prog W = .ok (.value (.pointer (some ⟨W.heap.size, 0, none⟩))) (W.alloc (Obj.cells (rtL rtZ sZ).toArray 29)) := by
  unfold execOp
  rw [ho]
  simp [go_sem, rtL, rtZ, sZ]
theorem ralloc_step {o : Oper} {a : Act} {W : World} {K : Act → World → Prop} {Q : Exit → Act → World → Prop} {c : Bool} {E : Prop} (ho : o.op = .alloc 29) (hc : c = true)
    (k : ∀ W' b, Hid (RB b rtZ sZ W') → Hid (Below W.heap.size W W') → Hid (b = W.heap.size) → Hid (W'.heap.size = b + 1) → K (a.put o.dst (.pointer (some ⟨b, 0, none⟩))) W') : if c = true then Oper.wp Try.prog o a W K Q else E :=
  step_run hc (ralloc_run ho) (k _ _ (World.alloc_heap_new W _) ((Below.refl _ W).alloc (Nat.le_refl _) _) rfl (by show _ = _; simp))
/-- between two attributes -/
structure SpI (w : World) (xs : List Nat) (b2 b5 : Nat) (wr : World) (va : Option Addr) (cap : Nat) (r : List Nat) (t : Rt) (s : Sl) (last : Nat) (kp : List Nat) (kv : Value) : Prop where
  l : Lst E8 w va r
  cap : r.length ≤ cap
  u8 : ∀ d ∈ r, d < 256
  r2 : RB b2 rtZ sZ wr
  r5 : RB b5 t s wr
  h2 : w.heap.size ≤ b2
  h25 : b2 < b5
  ro : RO (b5 + 1) wr t s
  ok : OwnL E8 (b5 + 1) wr kv kp
  ap : ∀ g, kv.ownBlock = some g → ¬ Rown s g
  bel : Below w.heap.size w wr
  so : attrsD 0 rtZ [] xs = attrsD last t kp r
  n : kp.length + r.length ≤ xs.length
theorem sp_start {w W1 W : World} {xs : List Nat} {va : Option Addr} {cap : Nat} (hl : Lst E8 w va xs) (hc : xs.length ≤ cap) (hu : ∀ d ∈ xs, d < 256)
    (h1 : w.alloc (Obj.cells #[.int .u32 0, .int .i64 0, .slice none 0 0, .int .i64 0, .int .i64 0, .int .i64 0, .int .u32 0, .slice none 0 0, .slice none 0 0, .int .i64 0] 29) = W1)
    (h2 : W1.alloc (Obj.cells #[.int .u32 0, .int .i64 0, .slice none 0 0, .int .i64 0, .int .i64 0, .int .i64 0, .int .u32 0, .slice none 0 0, .slice none 0 0, .int .i64 0] 29) = W) : SpI w xs w.heap.size (w.heap.size + 1) W va cap xs rtZ sZ 0 [] (.slice none 0 0) := by
  obtain ⟨r1, b1⟩ := rb_new rfl h1
  have z1 : W1.heap.size = w.heap.size + 1 := by rw [← h1]; simp
  obtain ⟨r2, b2⟩ := rb_new z1 h2
  exact ⟨hl, hc, hu, r1.blk (b2.block _ (by omega)), r2, Nat.le_refl _, by omega, RO.zero _ _, OwnL.nil _ _ _, (fun g e => by cases e), b1.trans (b2.mono b1.size), rfl, by simp⟩
/-- it fails -/
theorem sp_none {w wr W : World} {xs : List Nat} {b2 b5 : Nat} {va : Option Addr} {cap : Nat} {r : List Nat} {t : Rt} {s : Sl} {last : Nat} {kp : List Nat} {kv : Value} (h : SpI w xs b2 b5 wr va cap r t s last kp kv) (hk : Ko wr b2 W) (hn : attrsD last t kp r = none) : DsPost w (attrsD 0 rtZ [] xs) (.returned (.tuple #[rtV t s, .slice none 0 0, .bool false])) W := by
  rw [h.so, hn]
  exact ⟨⟨t, s, rfl⟩, h.bel.trans (hk.below h.h2)⟩
theorem sp_some {w wr W : World} {xs : List Nat} {b2 b5 : Nat} {va : Option Addr} {cap : Nat} {t : Rt} {s : Sl} {last : Nat} {kp : List Nat} {kv : Value} (h : SpI w xs b2 b5 wr va cap [] t s last kp kv) (hk : Ko wr b2 W) : DsPost w (attrsD 0 rtZ [] xs) (.returned (.tuple #[rtV t s, kv, .bool true])) W := by
  rw [h.so, attrsD_nil]
  have h2 := h.h2
  have h25 := h.h25
  refine ⟨s, kv, rfl, (h.ro.blk (fun g _ hg _ => hk.block g (by omega))).mono (by omega), (h.ok.blk (fun g e => hk.block g ?_)).mono (by omega), h.bel.trans (hk.below h.h2)⟩
  have := (h.ok.row.lt g e).1
  omega
theorem SpI.bel2 {w wr W : World} {xs : List Nat} {b2 b5 : Nat} {va : Option Addr} {cap : Nat} {r : List Nat} {t : Rt} {s : Sl} {last : Nat} {kp : List Nat} {kv : Value} (h : SpI w xs b2 b5 wr va cap r t s last kp kv) (hb : Below wr.heap.size wr W) : SpI w xs b2 b5 W va cap r t s last kp kv :=
  ⟨h.l, h.cap, h.u8, h.r2.blk (hb.block _ h.r2.lt), h.r5.blk (hb.block _ h.r5.lt), h.h2, h.h25, h.ro.bel hb, h.ok.bel hb, h.ap, h.bel.trans (hb.mono h.bel.size), h.so, h.n⟩
theorem sp_next {w wr W4 W5 w6 : World} {xs : List Nat} {b2 b5 : Nat} {va va2 : Option Addr} {cap cap2 : Nat} {r r2 ys : List Nat} {t t2 : Rt} {s s2 : Sl} {last kd : Nat} {kp : List Nat} {kv v6 : Value} (h : SpI w xs b2 b5 wr va cap r t s last kp kv)
    (hb : Below wr.heap.size wr W4) (hro : RO (b5 + 1) W4 t2 s2) (hs : ∀ g, Rown s2 g → Rown s g ∨ wr.heap.size ≤ g) (hk5 : Ko W4 b5 W5) (r5 : RB b5 t2 s2 W5) (hg : W5.grownBy w6 kv.ownBlock) (ho : OwnL E8 (b5 + 1) w6 v6 (kp ++ ys)) (ha : v6.ownBlock = kv.ownBlock ∨ v6.ownBlock = some W5.heap.size)
    (hl : Lst E8 w va2 r2) (hc : r2.length ≤ cap2) (hu : ∀ d ∈ r2, d < 256) (so : attrsD 0 rtZ [] xs = attrsD kd t2 (kp ++ ys) r2) (hn : (kp ++ ys).length + r2.length ≤ xs.length) : SpI w xs b2 b5 w6 va2 cap2 r2 t2 s2 kd (kp ++ ys) v6 := by
  have l5 := h.r5.lt
  have l2 := h.r2.lt
  have h2 := h.h2
  have h25 := h.h25
  have z2 := hb.size
  have z5 := hk5.size
  have hbr := h.bel.size
  have hkv : ∀ g, kv.ownBlock = some g → b5 + 1 ≤ g ∧ g < wr.heap.size := fun g e => h.ok.row.lt g e
  have hr2 : RB b2 rtZ sZ W5 := (h.r2.blk (hb.block _ l2)).blk (hk5.block _ (by omega))
  have hap : ∀ g, Rown s2 g → kv.ownBlock ≠ some g := fun g hg e => by
    rcases hs g hg with h1 | h1
    · exact h.ap g e h1
    · have := (hkv g e).2; omega
  have hro5 : RO (b5 + 1) W5 t2 s2 := hro.blk (fun g _ h1 _ => hk5.block g (by omega))
  refine ⟨hl, hc, hu, hr2.blk (hg.block _ (by omega) (fun e => ?_)), r5.blk (hg.block _ (by omega) (fun e => ?_)), h2, h25, hro5.blk (fun g h1 h3 h4 => hg.block g h4 (fun e => hap g h1 e.symm)), ho, fun g e h1 => ?_, ?_, so, hn⟩
  · have := (hkv _ e.symm).1; omega
  · have := (hkv _ e.symm).1; omega
  · rcases ha with e1 | e1
    · rw [e1] at e; exact hap g h1 e
    · rw [e1] at e
      cases e
      have := (hro5.rng _ h1).2
      omega
  · have hb5 : Below w.heap.size w W5 := (h.bel.trans (hb.mono hbr)).trans (hk5.below (by omega))
    exact hb5.grown hg hb5.size (fun g e => by have := (hkv g e).1; omega)
theorem attrsD_no {r : List Nat} (last : Nat) (t : Rt) (kp : List Nat) (h0 : 0 < r.length) (h : rpiece (r.drop 1) = none) : attrsD last t kp r = none := by rw [attrsD_cons _ _ _ h0, h]
theorem attrsD_low {r v r2 : List Nat} {last : Nat} {t : Rt} {kp : List Nat} (h0 : 0 < r.length) (h : rpiece (r.drop 1) = some (v, r2)) (hl : num (r.take 1) ≤ last) : attrsD last t kp r = none := by rw [attrsD_cons _ _ _ h0, h]; dsimp only; rw [if_pos hl]
theorem attrsD_pass {r v r2 : List Nat} {last : Nat} {t : Rt} {kp : List Nat} (h0 : 0 < r.length) (h : rpiece (r.drop 1) = some (v, r2)) (hl : ¬ num (r.take 1) ≤ last) (hp : passed (num (r.take 1)) = true) : attrsD last t kp r = attrsD (num (r.take 1)) t kp r2 := by rw [attrsD_cons _ _ _ h0, h]; dsimp only; rw [if_neg hl, if_pos hp]
theorem attrsD_set {r v r2 : List Nat} {last : Nat} {t : Rt} {kp : List Nat} (h0 : 0 < r.length) (h : rpiece (r.drop 1) = some (v, r2)) (hl : ¬ num (r.take 1) ≤ last) (hp : ¬ passed (num (r.take 1)) = true) : attrsD last t kp r = match setD t (num (r.take 1)) v with | none => none | some t2 => attrsD (num (r.take 1)) t2 (kp ++ r.take (3 + v.length)) r2 := by rw [attrsD_cons _ _ _ h0, h]; dsimp only; rw [if_neg hl, if_neg hp]; rfl
theorem rpiece_no {r : List Nat} {m : Nat} (hm : r.length = m) (h0 : 0 < m) (h : m < 3 ∨ (3 ≤ m ∧ m < 3 + num ((r.drop 1).take 2))) : rpiece (r.drop 1) = none := by
  unfold rpiece
  rcases h with h | ⟨h, h2⟩
  · rw [rd_no (by rw [List.length_drop]; omega)]
  · rw [rd_yes (by rw [List.length_drop]; omega)]
    dsimp only
    rw [rd_no (by rw [List.length_drop, List.length_drop]; omega)]
theorem rpiece_yes {r : List Nat} {m k : Nat} (hm : r.length = m) (hk : num ((r.drop 1).take 2) = k) (h : 3 + k ≤ m) : rpiece (r.drop 1) = some ((r.drop 3).take k, r.drop (3 + k)) := by
  unfold rpiece
  rw [rd_yes (by rw [List.length_drop]; omega)]
  dsimp only
  rw [hk, rd_yes (by rw [List.length_drop, List.length_drop]; omega), List.drop_drop, List.drop_drop]
set_option maxRecDepth 100000 in
set_option maxHeartbeats 16000000 in
theorem dsplit_any (a : Option Addr) (n c : Nat) (xs : List Nat) (w : World) (hl : Lst E8 w a xs) (hn : xs.length = n) (hc : n ≤ c) (hu : ∀ d ∈ xs, d < 256) (hbig : n ≤ 1048576) :
    Calls Try.prog 45 #[.slice a n c] w (DsPost w (attrsD 0 rtZ [] xs)) := by
  have HL : Hid (Lst E8 w a xs) := hl
  have HLN : Hid (xs.length = n) := hn
  have HU : Hid (∀ d ∈ xs, d < 256) := hu
  clear hl hn hu
  obtain ⟨W1, hW1⟩ : ∃ W, w.alloc (Obj.cells #[.int .u32 0, .int .i64 0, .slice none 0 0, .int .i64 0, .int .i64 0, .int .i64 0, .int .u32 0, .slice none 0 0, .slice none 0 0, .int .i64 0] 29) = W := ⟨_, rfl⟩
  have hz1 : W1.heap.size = w.heap.size + 1 := by rw [← hW1]; simp
  obtain ⟨W, hW⟩ : ∃ W, W1.alloc (Obj.cells #[.int .u32 0, .int .i64 0, .slice none 0 0, .int .i64 0, .int .i64 0, .int .i64 0, .int .u32 0, .slice none 0 0, .slice none 0 0, .int .i64 0] 29) = W := ⟨_, rfl⟩
  have HS : Hid (SpI w xs w.heap.size (w.heap.size + 1) W a c xs rtZ sZ 0 [] (.slice none 0 0)) := sp_start HL.out (by rw [HLN.out]; exact hc) HU.out hW1 hW
  go_enter Try.func45, Try.ntmps45
  go_wp2_with fail
  clear hW hW1 hz1
  obtain ⟨b5, hb5⟩ : ∃ k, w.heap.size + 1 = k := ⟨_, rfl⟩
  rw [hb5] at HS ⊢
  obtain ⟨b2, hb2⟩ : ∃ k, w.heap.size = k := ⟨_, rfl⟩
  have HB2 : Hid (w.heap.size = b2) := hb2
  rw [hb2]
  have HS0 : Hid (SpI w xs b2 b5 W a c xs rtZ sZ 0 [] (.slice none 0 0)) := by rw [← hb2]; exact HS.out
  clear hb5 hb2 HS
  go_loopw [0, 6, 7] (fun bv kv lv wr => ∃ (va : Option Addr) (cap : Nat) (r : List Nat) (t : Rt) (s : Sl) (last : Nat) (kp : List Nat), bv = .slice va r.length cap ∧ lv = .int .i64 (last : Int) ∧ SpI w xs b2 b5 wr va cap r t s last kp kv) (fun bv _ _ _ => slen bv)
  case atStart => exact ⟨a, c, xs, rtZ, sZ, 0, [], by rw [HLN.out], rfl, HS0.out⟩
  case round =>
    obtain ⟨va, cap, r, t, s, last, kp, rfl, rfl, hi⟩ := hrel
    have HI : Hid (SpI w xs b2 b5 wr va cap r t s last kp u6) := hi
    obtain ⟨m, hm⟩ : ∃ m, r.length = m := ⟨_, rfl⟩
    have HM : Hid (r.length = m) := hm
    rw [hm]
    have hcap := hi.cap
    have hnn := hi.n
    rw [hm] at hcap hnn
    rw [HLN.out] at hnn
    clear hi hm HS0
    by_cases h0 : m = 0
    · subst h0
      have hr0 : r = [] := List.length_eq_zero_iff.1 HM.out
      subst hr0
      go_wp2_with (first | (refine list_sload RtK rfl _ rfl (b := b5) (cs := rtL t s) rfl HI.out.r5 rfl ?_) | (refine list_sstore RtK rfl _ _ rfl (b := b2) (cs := rtL rtZ sZ) (cs' := rtL t s) rfl rfl HI.out.r2 rfl rfl rfl ?_))
      intro W5 hm5 hk5
      have HQ5 := sp_some HI.out hk5.out
      clear hk5 HI
      go_wp2_with fail
      exact bodyPost_ret (ds_res hm5.out rfl rfl rfl) rfl HQ5
    · have hm0i : (0 : Int) < (m : Int) := by omega
      by_cases h3 : m < 3
      · have h3i : (m : Int) < 3 := by omega
        have HNO : Hid (attrsD last t kp r = none) := attrsD_no _ _ _ (by rw [HM.out]; omega) (rpiece_no HM.out (by omega) (.inl h3))
        go_wp2_with (first | (refine list_sload RtK rfl _ rfl (b := b5) (cs := rtL t s) rfl HI.out.r5 rfl ?_) | (refine list_sstore RtK rfl _ _ rfl (b := b2) (cs := rtL rtZ sZ) (cs' := rtL t s) rfl rfl HI.out.r2 rfl rfl rfl ?_))
        intro W5 hm5 hk5
        have HQ5 := sp_none HI.out hk5.out HNO.out
        clear hk5 HI
        go_wp2_with fail
        exact bodyPost_ret (ds_res hm5.out rfl rfl rfl) rfl HQ5
      · have h3i : ¬ (m : Int) < 3 := by omega
        obtain ⟨b, o, rfl, hbl, -⟩ := lst8 HI.out.l 0 (by rw [HM.out]; omega)
        have hc1 : ¬ cap = 1 := by omega
        have hc3 : (3 : Int) ≤ (cap : Int) := by omega
        have c0 : wr.cell? ⟨b, o, none⟩ = some (.int .u8 (r[0]'(by rw [HM.out]; omega) : Int)) := by
          obtain ⟨b', o', e, -, h6⟩ := lst8 (HI.out.l.bel HI.out.bel) 0 (by rw [HM.out]; omega)
          cases e
          simpa using h6
        obtain ⟨kd, hkd⟩ : ∃ q, r[0]'(by rw [HM.out]; omega) = q := ⟨_, rfl⟩
        have hkd8 : kd < 256 := by rw [← hkd]; exact HI.out.u8 _ (List.getElem_mem _)
        rw [hkd] at c0
        have HT1 : Hid (num (r.take 1) = kd) := by
          show _ = _
          have h5 := num_take r 0 (by rw [HM.out]; omega)
          rw [hkd] at h5
          simpa [num] using h5
        have hwk : IntKind.i64.wrap (kd : Int) = (kd : Int) := by rw [IntWalk.i64_in _ (by omega)]
        have HX : Hid (Lst E8 wr (some ⟨b, o + 1, none⟩) ((r.drop 1).take 2)) := by
          have h5 := ((HI.out.l.bel HI.out.bel).drop 1).take 2
          exact h5
        have HXU : Hid (∀ d ∈ (r.drop 1).take 2, d < 256) := fun d hd => HI.out.u8 d (List.mem_of_mem_drop (List.mem_of_mem_take hd))
        obtain ⟨k, hk⟩ : ∃ k, num ((r.drop 1).take 2) = k := ⟨_, rfl⟩
        have hk16 : k < 65536 := by
          rw [← hk]
          exact num_lt (drop_u8 HI.out.u8 1) 2 (by rw [List.length_drop, HM.out]; omega)
        have HDN := dnum_any (some ⟨b, o + 1, none⟩) 2 (cap - 1) _ wr HX.out (by rw [List.length_take, List.length_drop, HM.out]; omega) HXU.out (by omega)
        rw [hk] at HDN
        have HDH : Hid (Calls Try.prog 25 #[.slice (some ⟨b, o + 1, none⟩) 2 (cap - 1)] wr fun e w' => e = .returned (.int .i64 (k : Int)) ∧ w' = wr) := HDN
        have HK : Hid (num ((r.drop 1).take 2) = k) := hk
        clear hkd hk HDN HX HXU
        by_cases hmk : m < 3 + k
        · have hmki : (m : Int) < 3 + (k : Int) := by omega
          have HNO : Hid (attrsD last t kp r = none) := attrsD_no _ _ _ (by rw [HM.out]; omega) (rpiece_no HM.out (by omega) (.inr ⟨by omega, by rw [HK.out]; exact hmk⟩))
          go_wp2_with (first | (go_at_call 25; refine HDH.out.mono ?_; rintro e w' ⟨rfl, hw'⟩; rw [hw']; clear hw' w') | (refine list_sload RtK rfl _ rfl (b := b5) (cs := rtL t s) rfl HI.out.r5 rfl ?_) | (refine list_sstore RtK rfl _ _ rfl (b := b2) (cs := rtL rtZ sZ) (cs' := rtL t s) rfl rfl HI.out.r2 rfl rfl rfl ?_))
          intro W5 hm5 hk5
          have HQ5 := sp_none HI.out hk5.out HNO.out
          clear hk5 HI
          go_wp2_with fail
          exact bodyPost_ret (ds_res hm5.out rfl rfl rfl) rfl HQ5
        · have hmki : ¬ (m : Int) < 3 + (k : Int) := by omega
          obtain ⟨v, hv⟩ : ∃ v, (r.drop 3).take k = v := ⟨_, rfl⟩
          have HVV : Hid ((r.drop 3).take k = v) := hv
          obtain ⟨r2, hr2⟩ : ∃ v, r.drop (3 + k) = v := ⟨_, rfl⟩
          have HR2 : Hid (r.drop (3 + k) = r2) := hr2
          have HRP : Hid (rpiece (r.drop 1) = some (v, r2)) := by
            have h5 := rpiece_yes HM.out HK.out (by omega)
            rw [hv, hr2] at h5
            exact h5
          have hvl : v.length = k := by rw [← hv, List.length_take, List.length_drop, HM.out]; omega
          have HVL : Hid (v.length = k) := hvl
          have HRL2 : Hid (r2.length = m - (3 + k)) := by show _ = _; rw [← hr2, List.length_drop, HM.out]
          have HU2 : Hid (∀ d ∈ r2, d < 256) := fun d hd => HI.out.u8 d (by rw [← HR2.out] at hd; exact List.mem_of_mem_drop hd)
          have HLL2 : Hid (∀ va : Option Addr, (3 + k < m → va = some ⟨b, o + (3 + k), none⟩) → Lst E8 w va r2) := by
            intro va hva
            by_cases h5 : 3 + k < m
            · rw [hva h5]
              have h6 := HI.out.l.drop (3 + k)
              rw [HR2.out] at h6
              have h7 : o + (3 + k) * E8.k = o + (3 + k) := by show o + (3 + k) * 1 = _; omega
              rw [h7] at h6
              exact h6
            · have : r2 = [] := List.length_eq_zero_iff.1 (by rw [HRL2.out]; omega)
              rw [this]
              exact ⟨by simp, fun i hi => absurd hi (by simp)⟩
          clear hv hr2 hvl
          by_cases hlo : kd ≤ last
          · have hloi : (kd : Int) ≤ (last : Int) := by omega
            have HNO : Hid (attrsD last t kp r = none) := attrsD_low (by rw [HM.out]; omega) HRP.out (by rw [HT1.out]; exact hlo)
            go_wp2_with (first | (go_at_call 25; refine HDH.out.mono ?_; rintro e w' ⟨rfl, hw'⟩; rw [hw']; clear hw' w') | (refine list_sload RtK rfl _ rfl (b := b5) (cs := rtL t s) rfl HI.out.r5 rfl ?_) | (refine list_sstore RtK rfl _ _ rfl (b := b2) (cs := rtL rtZ sZ) (cs' := rtL t s) rfl rfl HI.out.r2 rfl rfl rfl ?_))
            intro W5 hm5 hk5
            have HQ5 := sp_none HI.out hk5.out HNO.out
            clear hk5 HI
            go_wp2_with fail
            exact bodyPost_ret (ds_res hm5.out rfl rfl rfl) rfl HQ5
          · have hloi : ¬ (kd : Int) ≤ (last : Int) := by omega
            by_cases hp : passed kd = true
            · have hp2 := hp
              unfold passed at hp2
              rw [wi_iff] at hp2
              have hp1 : ¬ (kd : Int) < 128 := by omega
              have hp3 : ¬ (191 : Int) < (kd : Int) := by omega
              have HSO : Hid (attrsD 0 rtZ [] xs = attrsD kd t kp r2) := by
                show _ = _
                rw [HI.out.so, attrsD_pass (by rw [HM.out]; omega) HRP.out (by rw [HT1.out]; exact hlo) (by rw [HT1.out]; exact hp), HT1.out]
              clear hp hp2
              go_wp2_with (first | (go_at_call 25; refine HDH.out.mono ?_; rintro e w' ⟨rfl, hw'⟩; rw [hw']; clear hw' w'))
              refine ⟨⟨_, _, r2, t, s, kd, kp, by rw [HRL2.out], rfl, ⟨HLL2.out _ (fun h => if_neg (by omega)), by rw [HRL2.out]; omega, HU2.out, HI.out.r2, HI.out.r5, HI.out.h2, HI.out.h25, HI.out.ro, HI.out.ok, HI.out.ap, HI.out.bel, HSO.out, ?_⟩⟩, ?_⟩
              · rw [HRL2.out, HLN.out]; omega
              · show m - (3 + k) < m; omega
            · have HSO : Hid (attrsD last t kp r = match setD t kd v with | none => none | some t2 => attrsD kd t2 (kp ++ r.take (3 + k)) r2) := by
                show _ = _
                rw [attrsD_set (by rw [HM.out]; omega) HRP.out (by rw [HT1.out]; exact hlo) (by rw [HT1.out]; exact hp), HT1.out, HVL.out]
              have hp2 : ¬ (128 ≤ (kd : Int) ∧ (kd : Int) ≤ 191) := fun h => hp (by unfold passed; rw [wi_iff]; exact h)
              have HDV : Hid (∀ W, Below wr.heap.size wr W → ∀ va, (¬ cap = 3 → va = some ⟨b, o + 3, none⟩) → Calls Try.prog 74 #[rtV t s, .int .i64 (kd : Int), .slice va k (cap - 3)] W (DvPost (b5 + 1) W s (setD t kd v))) := by
                intro W hW va hva
                have hi2 := HI.out.bel2 hW
                refine dvalue_any (b5 + 1) t s kd va k (cap - 3) v W hi2.ro hi2.r5.lt ?_ HVL.out (fun d hd => HI.out.u8 d (by rw [← HVV.out] at hd; exact List.mem_of_mem_drop (List.mem_of_mem_take hd))) (by omega) (by omega)
                by_cases hc3' : cap = 3
                · have : v = [] := List.length_eq_zero_iff.1 (by rw [HVL.out]; omega)
                  rw [this]
                  exact ⟨by simp, fun i hi => absurd hi (by simp)⟩
                · rw [hva hc3']
                  have h5 := ((HI.out.l.bel hi2.bel).drop 3).take k
                  rw [HVV.out] at h5
                  exact h5
              obtain ⟨va4, hva4⟩ : ∃ y : Option Addr, (if cap = 3 then some (⟨b, o, none⟩ : Addr) else some ⟨b, o + 3, none⟩) = y := ⟨_, rfl⟩
              have HVA4 : Hid ((if cap = 3 then some (⟨b, o, none⟩ : Addr) else some ⟨b, o + 3, none⟩) = va4) := hva4
              clear hva4
              obtain ⟨od, hod⟩ : ∃ od, setD t kd v = od := ⟨_, rfl⟩
              rw [hod] at HDV HSO
              clear hp hod
              by_cases hp1 : kd < 128
              case' pos =>
                have hp1i : (kd : Int) < 128 := by omega
                go_wp2_with (first | (go_at_call 25; refine HDH.out.mono ?_; rintro e w' ⟨rfl, hw'⟩; rw [hw']; clear hw' w'))
              case' neg =>
                have hp1i : ¬ (kd : Int) < 128 := by omega
                have hp3i : (191 : Int) < (kd : Int) := by omega
                go_wp2_with (first | (go_at_call 25; refine HDH.out.mono ?_; rintro e w' ⟨rfl, hw'⟩; rw [hw']; clear hw' w'))
              all_goals
                cases od with
                | none =>
                  have HDB : Hid (Below wr.heap.size wr wr.drew) := drew_bel wr
                  refine wp_region_held_drew (S := fun W => SB RtK b5 (rtL t s) W) (by kernel_rfl) (HI.out.r5.blk (HDB.out.block _ HI.out.r5.lt)) (fun hHeld => ?_)
                  refine wpAnyH_take (i := 0) (v := .agg (rtL t s).toArray) rfl (by kernel_rfl) (by kernel_rfl) (by kernel_rfl) (fun _ _ _ h => h) (Or.inl ⟨by rfl, fun W hSw => sload_run RtK (.tmp 5) rfl rfl hSw rfl⟩) (by assumption) ?_
                  try simp only [Act.put, List.getElem_toArray, List.getElem_cons_zero, List.setIfInBounds_toArray, List.set_cons_zero, List.set_cons_succ]
                  refine wpAnyH_take (i := 1) (v := ?_) rfl (by kernel_rfl) (by kernel_rfl) (by kernel_rfl) (fun _ _ _ h => h) (Or.inl ⟨by rfl, ?_⟩) (by assumption) ?_
                  case refine_2 => intro W hSw; go_simp; try rfl
                  try simp only [Act.put, List.getElem_toArray, List.getElem_cons_zero, List.getElem_cons_succ, List.setIfInBounds_toArray, List.set_cons_zero, List.set_cons_succ]
                  refine wpAnyH_take (i := 2) (v := ?_) rfl (by kernel_rfl) (by kernel_rfl) (by kernel_rfl) (fun _ _ _ h => h) (Or.inl ⟨by rfl, ?_⟩) (by assumption) ?_
                  case refine_2 => intro W hSw; go_simp; try rfl
                  try simp only [Act.put, List.getElem_toArray, List.getElem_cons_zero, List.getElem_cons_succ, List.setIfInBounds_toArray, List.set_cons_zero, List.set_cons_succ]
                  refine wpAnyH_take (i := 3) (v := ?_) rfl (by kernel_rfl) (by kernel_rfl) (by kernel_rfl) (fun _ _ _ h => h) (Or.inl ⟨by rfl, ?_⟩) (by assumption) ?_
                  case refine_2 => intro W hSw; go_simp; try rfl
                  try simp only [Act.put, List.getElem_toArray, List.getElem_cons_zero, List.getElem_cons_succ, List.setIfInBounds_toArray, List.set_cons_zero, List.set_cons_succ]
                  refine wpAnyH_take (i := 4) (v := .slice va4 k (cap - 3)) rfl (by kernel_rfl) (by kernel_rfl) (by kernel_rfl) (fun _ _ _ h => h) (Or.inl ⟨by rfl, fun W hSw => by go_simp; rw [if_pos (by omega), if_pos (by omega), show ((3 : Int) + (k : Int)).toNat - 3 = k by omega, HVA4.out]⟩) (by assumption) ?_
                  try simp only [Act.put, List.getElem_toArray, List.getElem_cons_zero, List.getElem_cons_succ, List.setIfInBounds_toArray, List.set_cons_zero, List.set_cons_succ]
                  refine wpAnyH_ready (rs := [5, 9]) (by kernel_rfl) (by simp) ?_
                  refine AllReadyH.cons rfl (fun K hK => ?_) (AllReadyH.cons rfl (fun K hK => ?_) AllReadyH.nil)
                  case' refine_1 =>
                    go_simp
                    refine (HDV.out wr.drew HDB.out va4 (fun h => by rw [← HVA4.out]; exact if_neg h)).mono ?_
                    rintro e w2 ⟨⟨t2, s2, rfl⟩, hb2⟩
                    have HB2 : Hid (Below wr.heap.size wr w2) := HDB.out.trans hb2
                    clear hb2
                    refine hK.out _ _ (HI.out.r5.blk (HB2.out.block _ HI.out.r5.lt)) (fun hHeld => ?_)
                    clear hK K
                    try simp only [Act.put, List.getElem_toArray, List.getElem_cons_zero, List.getElem_cons_succ, List.setIfInBounds_toArray, List.set_cons_zero, List.set_cons_succ]
                    refine wpAnyH_take (i := 6) (v := ?_) rfl (by kernel_rfl) (by kernel_rfl) (by kernel_rfl) (fun _ _ _ h => h) (Or.inl ⟨by rfl, ?_⟩) (by assumption) ?_
                    case refine_2 => intro W hSw; go_simp; try rfl
                    try simp only [Act.put, List.getElem_toArray, List.getElem_cons_zero, List.getElem_cons_succ, List.setIfInBounds_toArray, List.set_cons_zero, List.set_cons_succ]
                    refine wpAnyH_take (i := 7) (v := ?_) rfl (by kernel_rfl) (by kernel_rfl) (by kernel_rfl) (fun _ _ _ h => h) (Or.inl ⟨by rfl, ?_⟩) (by assumption) ?_
                    case refine_2 => intro W hSw; go_simp; try rfl
                    try simp only [Act.put, List.getElem_toArray, List.getElem_cons_zero, List.getElem_cons_succ, List.setIfInBounds_toArray, List.set_cons_zero, List.set_cons_succ]
                    refine wpAnyH_take (i := 8) (v := ?_) rfl (by kernel_rfl) (by kernel_rfl) (by kernel_rfl) (fun _ _ _ h => h) (Or.inl ⟨by rfl, ?_⟩) (by assumption) ?_
                    case refine_2 => intro W hSw; go_simp; try rfl
                    try simp only [Act.put, List.getElem_toArray, List.getElem_cons_zero, List.getElem_cons_succ, List.setIfInBounds_toArray, List.set_cons_zero, List.set_cons_succ]
                    refine wpAnyH_ready (rs := [9]) (by kernel_rfl) (by simp) ?_
                    refine AllReadyH.cons rfl (fun K hK => ?_) AllReadyH.nil
                    refine ralloc_step rfl rfl (fun W3 b9 h9 hb3 he9 hz9 => ?_)
                    have HB3 : Hid (Below wr.heap.size wr W3) := HB2.out.trans (hb3.out.mono HB2.out.size)
                    have HNB : Hid (wr.heap.size ≤ b9) := by show _ ≤ _; rw [he9.out]; exact HB2.out.size
                    refine hK.out _ _ (HI.out.r5.blk (HB3.out.block _ HI.out.r5.lt)) (fun hHeld => ?_)
                    clear hK K hb3 HB2 he9 hz9
                    try simp only [Act.put, List.getElem_toArray, List.getElem_cons_zero, List.getElem_cons_succ, List.setIfInBounds_toArray, List.set_cons_zero, List.set_cons_succ]
                  case' refine_2 =>
                    refine ralloc_step rfl rfl (fun W1 b9 h91 hb1 he9 hz9 => ?_)
                    have HB1 : Hid (Below wr.heap.size wr W1) := HDB.out.trans hb1.out
                    have HNB : Hid (wr.heap.size ≤ b9) := by show _ ≤ _; rw [he9.out]; exact Nat.le_refl _
                    have HEB : Hid (b9 = wr.heap.size) := he9.out
                    refine hK.out _ _ (HI.out.r5.blk (HB1.out.block _ HI.out.r5.lt)) (fun hHeld => ?_)
                    clear hK K hb1 he9
                    try simp only [Act.put, List.getElem_toArray, List.getElem_cons_zero, List.getElem_cons_succ, List.setIfInBounds_toArray, List.set_cons_zero, List.set_cons_succ]
                    refine wpAnyH_ready (rs := [5]) (by kernel_rfl) (by simp) ?_
                    refine AllReadyH.cons rfl (fun K hK => ?_) AllReadyH.nil
                    go_simp
                    refine (HDV.out W1 HB1.out va4 (fun h => by rw [← HVA4.out]; exact if_neg h)).mono ?_
                    rintro e W3 ⟨⟨t2, s2, rfl⟩, hb2⟩
                    have HB3 : Hid (Below wr.heap.size wr W3) := HB1.out.trans (hb2.mono HB1.out.size)
                    have h9 : Hid (RB b9 rtZ sZ W3) := h91.out.blk (hb2.block _ (by have := hz9.out; omega))
                    refine hK.out _ _ (HI.out.r5.blk (HB3.out.block _ HI.out.r5.lt)) (fun hHeld => ?_)
                    clear hK K hz9 hb2 h91 HB1 HEB
                    try simp only [Act.put, List.getElem_toArray, List.getElem_cons_zero, List.getElem_cons_succ, List.setIfInBounds_toArray, List.set_cons_zero, List.set_cons_succ]
                    refine wpAnyH_take (i := 6) (v := ?_) rfl (by kernel_rfl) (by kernel_rfl) (by kernel_rfl) (fun _ _ _ h => h) (Or.inl ⟨by rfl, ?_⟩) (by assumption) ?_
                    case refine_2 => intro W hSw; go_simp; try rfl
                    try simp only [Act.put, List.getElem_toArray, List.getElem_cons_zero, List.getElem_cons_succ, List.setIfInBounds_toArray, List.set_cons_zero, List.set_cons_succ]
                    refine wpAnyH_take (i := 7) (v := ?_) rfl (by kernel_rfl) (by kernel_rfl) (by kernel_rfl) (fun _ _ _ h => h) (Or.inl ⟨by rfl, ?_⟩) (by assumption) ?_
                    case refine_2 => intro W hSw; go_simp; try rfl
                    try simp only [Act.put, List.getElem_toArray, List.getElem_cons_zero, List.getElem_cons_succ, List.setIfInBounds_toArray, List.set_cons_zero, List.set_cons_succ]
                    refine wpAnyH_take (i := 8) (v := ?_) rfl (by kernel_rfl) (by kernel_rfl) (by kernel_rfl) (fun _ _ _ h => h) (Or.inl ⟨by rfl, ?_⟩) (by assumption) ?_
                    case refine_2 => intro W hSw; go_simp; try rfl
                    try simp only [Act.put, List.getElem_toArray, List.getElem_cons_zero, List.getElem_cons_succ, List.setIfInBounds_toArray, List.set_cons_zero, List.set_cons_succ]
                  all_goals
                    refine wpAnyH_ready (rs := [10]) (by kernel_rfl) (by simp) ?_
                    refine AllReadyH.cons rfl (fun K hK => ?_) AllReadyH.nil
                    refine sstore_step RtK (.tmp 9) (.tmp 56) rfl (b := b9) (cs := rtL rtZ sZ) (cs' := rtL t2 s2) rfl rfl h9.out rfl rfl rfl rfl (fun W4 h94 hk4 => ?_)
                    have HB4 : Hid (Below wr.heap.size wr W4) := HB3.out.trans (hk4.out.below HNB.out)
                    refine hK.out _ _ (HI.out.r5.blk (HB4.out.block _ HI.out.r5.lt)) (fun hHeld => ?_)
                    clear hK K hk4 h9 HB3
                    try simp only [Act.put, List.getElem_toArray, List.getElem_cons_zero, List.getElem_cons_succ]
                    refine wpAnyH_take (i := 11) (v := ?_) rfl (by kernel_rfl) (by kernel_rfl) (by kernel_rfl) (fun _ _ _ h => h) (Or.inl ⟨by rfl, ?_⟩) (by assumption) ?_
                    case refine_2 => intro W hSw; go_simp; try rfl
                    try simp only [Act.put, List.getElem_toArray, List.getElem_cons_zero, List.getElem_cons_succ, List.setIfInBounds_toArray, List.set_cons_zero, List.set_cons_succ]
                    refine wpAnyH_done (by kernel_rfl) ?_ _
                    clear hHeld
                    have HI4 : Hid (SpI w xs b2 b5 W4 (some ⟨b, o, none⟩) cap r t s last kp u6) := HI.out.bel2 HB4.out
                    clear HI HB4
                    go_wp2_with (first | (refine list_sload RtK rfl _ rfl (b := b5) (cs := rtL t s) rfl HI4.out.r5 rfl ?_) | (refine list_sstore RtK rfl _ _ rfl (b := b2) (cs := rtL rtZ sZ) (cs' := rtL t s) rfl rfl HI4.out.r2 rfl rfl rfl ?_))
                    intro W5 hm5 hk5
                    have HQ5 := sp_none HI4.out hk5.out HSO.out
                    clear hk5 HI4
                    go_wp2_with fail
                    exact bodyPost_ret (ds_res hm5.out rfl rfl rfl) rfl HQ5
                | some t2 =>
                  have HDB : Hid (Below wr.heap.size wr wr.drew) := drew_bel wr
                  refine wp_region_held_drew (S := fun W => SB RtK b5 (rtL t s) W) (by kernel_rfl) (HI.out.r5.blk (HDB.out.block _ HI.out.r5.lt)) (fun hHeld => ?_)
                  refine wpAnyH_take (i := 0) (v := .agg (rtL t s).toArray) rfl (by kernel_rfl) (by kernel_rfl) (by kernel_rfl) (fun _ _ _ h => h) (Or.inl ⟨by rfl, fun W hSw => sload_run RtK (.tmp 5) rfl rfl hSw rfl⟩) (by assumption) ?_
                  try simp only [Act.put, List.getElem_toArray, List.getElem_cons_zero, List.setIfInBounds_toArray, List.set_cons_zero, List.set_cons_succ]
                  refine wpAnyH_take (i := 1) (v := ?_) rfl (by kernel_rfl) (by kernel_rfl) (by kernel_rfl) (fun _ _ _ h => h) (Or.inl ⟨by rfl, ?_⟩) (by assumption) ?_
                  case refine_2 => intro W hSw; go_simp; try rfl
                  try simp only [Act.put, List.getElem_toArray, List.getElem_cons_zero, List.getElem_cons_succ, List.setIfInBounds_toArray, List.set_cons_zero, List.set_cons_succ]
                  refine wpAnyH_take (i := 2) (v := ?_) rfl (by kernel_rfl) (by kernel_rfl) (by kernel_rfl) (fun _ _ _ h => h) (Or.inl ⟨by rfl, ?_⟩) (by assumption) ?_
                  case refine_2 => intro W hSw; go_simp; try rfl
                  try simp only [Act.put, List.getElem_toArray, List.getElem_cons_zero, List.getElem_cons_succ, List.setIfInBounds_toArray, List.set_cons_zero, List.set_cons_succ]
                  refine wpAnyH_take (i := 3) (v := ?_) rfl (by kernel_rfl) (by kernel_rfl) (by kernel_rfl) (fun _ _ _ h => h) (Or.inl ⟨by rfl, ?_⟩) (by assumption) ?_
                  case refine_2 => intro W hSw; go_simp; try rfl
                  try simp only [Act.put, List.getElem_toArray, List.getElem_cons_zero, List.getElem_cons_succ, List.setIfInBounds_toArray, List.set_cons_zero, List.set_cons_succ]
                  refine wpAnyH_take (i := 4) (v := .slice va4 k (cap - 3)) rfl (by kernel_rfl) (by kernel_rfl) (by kernel_rfl) (fun _ _ _ h => h) (Or.inl ⟨by rfl, fun W hSw => by go_simp; rw [if_pos (by omega), if_pos (by omega), show ((3 : Int) + (k : Int)).toNat - 3 = k by omega, HVA4.out]⟩) (by assumption) ?_
                  try simp only [Act.put, List.getElem_toArray, List.getElem_cons_zero, List.getElem_cons_succ, List.setIfInBounds_toArray, List.set_cons_zero, List.set_cons_succ]
                  refine wpAnyH_ready (rs := [5, 9]) (by kernel_rfl) (by simp) ?_
                  refine AllReadyH.cons rfl (fun K hK => ?_) (AllReadyH.cons rfl (fun K hK => ?_) AllReadyH.nil)
                  case' refine_1 =>
                    go_simp
                    refine (HDV.out wr.drew HDB.out va4 (fun h => by rw [← HVA4.out]; exact if_neg h)).mono ?_
                    rintro e w2 ⟨s2, rfl, hro, hs, hb2⟩
                    have HB2 : Hid (Below wr.heap.size wr w2) := HDB.out.trans hb2
                    have HRO2 : Hid (RO (b5 + 1) w2 t2 s2) := hro
                    have HSS : Hid (∀ g, Rown s2 g → Rown s g ∨ wr.heap.size ≤ g) := hs
                    clear hro hs
                    clear hb2
                    refine hK.out _ _ (HI.out.r5.blk (HB2.out.block _ HI.out.r5.lt)) (fun hHeld => ?_)
                    clear hK K
                    try simp only [Act.put, List.getElem_toArray, List.getElem_cons_zero, List.getElem_cons_succ, List.setIfInBounds_toArray, List.set_cons_zero, List.set_cons_succ]
                    refine wpAnyH_take (i := 6) (v := ?_) rfl (by kernel_rfl) (by kernel_rfl) (by kernel_rfl) (fun _ _ _ h => h) (Or.inl ⟨by rfl, ?_⟩) (by assumption) ?_
                    case refine_2 => intro W hSw; go_simp; try rfl
                    try simp only [Act.put, List.getElem_toArray, List.getElem_cons_zero, List.getElem_cons_succ, List.setIfInBounds_toArray, List.set_cons_zero, List.set_cons_succ]
                    refine wpAnyH_take (i := 7) (v := ?_) rfl (by kernel_rfl) (by kernel_rfl) (by kernel_rfl) (fun _ _ _ h => h) (Or.inl ⟨by rfl, ?_⟩) (by assumption) ?_
                    case refine_2 => intro W hSw; go_simp; try rfl
                    try simp only [Act.put, List.getElem_toArray, List.getElem_cons_zero, List.getElem_cons_succ, List.setIfInBounds_toArray, List.set_cons_zero, List.set_cons_succ]
                    refine wpAnyH_take (i := 8) (v := ?_) rfl (by kernel_rfl) (by kernel_rfl) (by kernel_rfl) (fun _ _ _ h => h) (Or.inl ⟨by rfl, ?_⟩) (by assumption) ?_
                    case refine_2 => intro W hSw; go_simp; try rfl
                    try simp only [Act.put, List.getElem_toArray, List.getElem_cons_zero, List.getElem_cons_succ, List.setIfInBounds_toArray, List.set_cons_zero, List.set_cons_succ]
                    refine wpAnyH_ready (rs := [9]) (by kernel_rfl) (by simp) ?_
                    refine AllReadyH.cons rfl (fun K hK => ?_) AllReadyH.nil
                    refine ralloc_step rfl rfl (fun W3 b9 h9 hb3 he9 hz9 => ?_)
                    have HB3 : Hid (Below wr.heap.size wr W3) := HB2.out.trans (hb3.out.mono HB2.out.size)
                    have HNB : Hid (wr.heap.size ≤ b9) := by show _ ≤ _; rw [he9.out]; exact HB2.out.size
                    have HRO3 : Hid (RO (b5 + 1) W3 t2 s2) := HRO2.out.bel hb3.out
                    have HRN : Hid (∀ g, Rown s2 g → g ≠ b9) := fun g hg => by have := (HRO2.out.rng g hg).2; have := he9.out; omega
                    clear HRO2
                    refine hK.out _ _ (HI.out.r5.blk (HB3.out.block _ HI.out.r5.lt)) (fun hHeld => ?_)
                    clear hK K hb3 HB2 he9 hz9
                    try simp only [Act.put, List.getElem_toArray, List.getElem_cons_zero, List.getElem_cons_succ, List.setIfInBounds_toArray, List.set_cons_zero, List.set_cons_succ]
                  case' refine_2 =>
                    refine ralloc_step rfl rfl (fun W1 b9 h91 hb1 he9 hz9 => ?_)
                    have HB1 : Hid (Below wr.heap.size wr W1) := HDB.out.trans hb1.out
                    have HNB : Hid (wr.heap.size ≤ b9) := by show _ ≤ _; rw [he9.out]; exact Nat.le_refl _
                    have HEB : Hid (b9 = wr.heap.size) := he9.out
                    refine hK.out _ _ (HI.out.r5.blk (HB1.out.block _ HI.out.r5.lt)) (fun hHeld => ?_)
                    clear hK K hb1 he9
                    try simp only [Act.put, List.getElem_toArray, List.getElem_cons_zero, List.getElem_cons_succ, List.setIfInBounds_toArray, List.set_cons_zero, List.set_cons_succ]
                    refine wpAnyH_ready (rs := [5]) (by kernel_rfl) (by simp) ?_
                    refine AllReadyH.cons rfl (fun K hK => ?_) AllReadyH.nil
                    go_simp
                    refine (HDV.out W1 HB1.out va4 (fun h => by rw [← HVA4.out]; exact if_neg h)).mono ?_
                    rintro e W3 ⟨s2, rfl, hro, hs, hb2⟩
                    have HB3 : Hid (Below wr.heap.size wr W3) := HB1.out.trans (hb2.mono HB1.out.size)
                    have h9 : Hid (RB b9 rtZ sZ W3) := h91.out.blk (hb2.block _ (by have := hz9.out; omega))
                    have HRO3 : Hid (RO (b5 + 1) W3 t2 s2) := hro
                    have HSS : Hid (∀ g, Rown s2 g → Rown s g ∨ wr.heap.size ≤ g) := fun g hg => (hs g hg).imp id (fun h => by have := HB1.out.size; omega)
                    have HRN : Hid (∀ g, Rown s2 g → g ≠ b9) := fun g hg => by
                      rcases hs g hg with h | h
                      · have := (HI.out.ro.rng g h).2; have := HEB.out; omega
                      · have := hz9.out; omega
                    clear hro hs
                    refine hK.out _ _ (HI.out.r5.blk (HB3.out.block _ HI.out.r5.lt)) (fun hHeld => ?_)
                    clear hK K hz9 hb2 h91 HB1 HEB
                    try simp only [Act.put, List.getElem_toArray, List.getElem_cons_zero, List.getElem_cons_succ, List.setIfInBounds_toArray, List.set_cons_zero, List.set_cons_succ]
                    refine wpAnyH_take (i := 6) (v := ?_) rfl (by kernel_rfl) (by kernel_rfl) (by kernel_rfl) (fun _ _ _ h => h) (Or.inl ⟨by rfl, ?_⟩) (by assumption) ?_
                    case refine_2 => intro W hSw; go_simp; try rfl
                    try simp only [Act.put, List.getElem_toArray, List.getElem_cons_zero, List.getElem_cons_succ, List.setIfInBounds_toArray, List.set_cons_zero, List.set_cons_succ]
                    refine wpAnyH_take (i := 7) (v := ?_) rfl (by kernel_rfl) (by kernel_rfl) (by kernel_rfl) (fun _ _ _ h => h) (Or.inl ⟨by rfl, ?_⟩) (by assumption) ?_
                    case refine_2 => intro W hSw; go_simp; try rfl
                    try simp only [Act.put, List.getElem_toArray, List.getElem_cons_zero, List.getElem_cons_succ, List.setIfInBounds_toArray, List.set_cons_zero, List.set_cons_succ]
                    refine wpAnyH_take (i := 8) (v := ?_) rfl (by kernel_rfl) (by kernel_rfl) (by kernel_rfl) (fun _ _ _ h => h) (Or.inl ⟨by rfl, ?_⟩) (by assumption) ?_
                    case refine_2 => intro W hSw; go_simp; try rfl
                    try simp only [Act.put, List.getElem_toArray, List.getElem_cons_zero, List.getElem_cons_succ, List.setIfInBounds_toArray, List.set_cons_zero, List.set_cons_succ]
                  all_goals
                    refine wpAnyH_ready (rs := [10]) (by kernel_rfl) (by simp) ?_
                    refine AllReadyH.cons rfl (fun K hK => ?_) AllReadyH.nil
                    refine sstore_step RtK (.tmp 9) (.tmp 56) rfl (b := b9) (cs := rtL rtZ sZ) (cs' := rtL t2 s2) rfl rfl h9.out rfl rfl rfl rfl (fun W4 h94 hk4 => ?_)
                    have HB4 : Hid (Below wr.heap.size wr W4) := HB3.out.trans (hk4.out.below HNB.out)
                    have HRO4 : Hid (RO (b5 + 1) W4 t2 s2) := HRO3.out.blk (fun g hg _ _ => hk4.out.block g (HRN.out g hg))
                    clear HRO3 HRN
                    refine hK.out _ _ (HI.out.r5.blk (HB4.out.block _ HI.out.r5.lt)) (fun hHeld => ?_)
                    clear hK K hk4 h9 HB3
                    try simp only [Act.put, List.getElem_toArray, List.getElem_cons_zero, List.getElem_cons_succ]
                    refine wpAnyH_take (i := 11) (v := ?_) rfl (by kernel_rfl) (by kernel_rfl) (by kernel_rfl) (fun _ _ _ h => h) (Or.inl ⟨by rfl, ?_⟩) (by assumption) ?_
                    case refine_2 => intro W hSw; go_simp; try rfl
                    try simp only [Act.put, List.getElem_toArray, List.getElem_cons_zero, List.getElem_cons_succ, List.setIfInBounds_toArray, List.set_cons_zero, List.set_cons_succ]
                    refine wpAnyH_done (by kernel_rfl) ?_ _
                    clear hHeld
                    have HI4 : Hid (SpI w xs b2 b5 W4 (some ⟨b, o, none⟩) cap r t s last kp u6) := HI.out.bel2 HB4.out
                    go_wp2_with (first | (refine list_sload RtK rfl _ rfl (b := b9) (cs := rtL t2 s2) rfl h94.out rfl ?_) | (refine list_sstore RtK rfl _ _ rfl (b := b5) (cs := rtL t s) (cs' := rtL t2 s2) rfl rfl HI4.out.r5 rfl rfl rfl ?_))
                    intro W5 hm5 hk5
                    have HOW5 : Hid (OwnL E8 (b5 + 1) W5 u6 kp) := HI4.out.ok.blk (fun g e => hk5.out.block g (by have := (HI4.out.ok.row.lt g e).1; omega))
                    have HB5 : Hid (Below w.heap.size w W5) := HI4.out.bel.trans (hk5.out.below (by have := HI4.out.h2; have := HI4.out.h25; omega))
                    have HLT : Hid (Lst E8 W5 (some ⟨b, o, none⟩) (r.take (3 + k))) := (HI.out.l.bel HB5.out).take (3 + k)
                    have HN5 : Hid (b5 + 1 ≤ W5.heap.size) := by show _ ≤ _; rw [hk5.out.size]; exact HI4.out.r5.lt
                    have HBY : Hid (kp.length + (3 + k) ≤ 1099511627775) := by show _ ≤ _; omega
                    have HTL : Hid ((r.take (3 + k)).length = 3 + k) := by show _ = _; rw [List.length_take, HM.out]; omega
                    have HNIL : Hid ((some (⟨b, o, none⟩ : Addr)) = none → 3 + k = 0 ∧ cap = 0) := fun e => by cases e
                    clear HI4 h94
                    have hkc : 3 + (k : Int) ≤ (cap : Int) := by omega
                    have hk0 : (0 : Int) ≤ 3 + (k : Int) := by omega
                    go_wp2_with (at_builtin; refine list_appL E8 rfl _ _ 22 rfl rfl (b5 + 1) u6 kp (r.take (3 + k)) (some ⟨b, o, none⟩) (3 + k) cap W5 HBY.out rfl HOW5.out rfl HLT.out HNIL.out HTL.out HN5.out ?_)
                    intro v6 w6 ho6 hg6 ha6
                    have HSP : Hid (∀ va2 : Option Addr, (3 + k < m → va2 = some ⟨b, o + (3 + k), none⟩) → SpI w xs b2 b5 w6 va2 (cap - (3 + k)) r2 t2 s2 kd (kp ++ r.take (3 + k)) v6) := fun va2 h => sp_next HI.out HB4.out HRO4.out HSS.out hk5.out hm5.out hg6.out ho6.out ha6.out (HLL2.out va2 h) (by rw [HRL2.out]; omega) HU2.out (by rw [HI.out.so]; exact HSO.out) (by rw [List.length_append, HTL.out, HRL2.out, HLN.out]; omega)
                    clear ho6 hg6 ha6 hk5 hm5 HOW5 HB5 HLT HI HB4 HRO4 HSS
                    go_wp2_with fail
                    exact ⟨⟨_, _, r2, t2, s2, kd, _, by rw [HRL2.out], rfl, HSP.out _ (fun h => if_neg (by omega))⟩, by show m - (3 + k) < m; omega⟩
end Go.Proofs.Ytghlgkpfcpcopaa.Pv
