/- The document's guess of a message: an update. -/
import Derived.Test.YtghlgkpfcpcopaaMgD
import Derived.Test.YtghlgkpfcpcopaaMgE
namespace Go.Proofs.Ytghlgkpfcpcopaa.Pv
open Go.ChangeShapes Go.WideShapes Go.ChangeAt Go.RowKit Go.Joins Go.Proofs.Ytghlgkpfcpcopaa.PM Go.Proofs.Ytghlgkpfcpcopaa.Ask Go.Proofs.Ytghlgkpfcpcopaa.Ge
set_option linter.unusedVariables false

theorem gupd_no {xs : List Nat} {n : Nat} (hn : xs.length = n) (h : n < 2 ∨ (2 ≤ n ∧ n < 4 + num (xs.take 2)) ∨ (4 + num (xs.take 2) ≤ n ∧ n < 2 + num (xs.take 2) + 2 + num ((xs.drop (2 + num (xs.take 2))).take 2))) : guess 2 xs = none := by
  unfold guess gupd
  rw [if_pos rfl]
  rcases h with h | ⟨h1, h2⟩ | ⟨h1, h2⟩
  · have e : rpiece xs = none := by unfold rpiece; rw [rd_no (by omega)]
    rw [e]
  · by_cases h3 : 2 + num (xs.take 2) ≤ n
    · have e : rpiece xs = some ((xs.drop 2).take (num (xs.take 2)), (xs.drop 2).drop (num (xs.take 2))) := by unfold rpiece; rw [rd_yes (by omega)]; dsimp only; rw [rd_yes (by rw [List.length_drop]; omega)]
      have e2 : rpiece ((xs.drop 2).drop (num (xs.take 2))) = none := by unfold rpiece; rw [rd_no (by rw [List.length_drop, List.length_drop]; omega)]
      rw [e]; dsimp only; rw [e2]
    · have e : rpiece xs = none := by unfold rpiece; rw [rd_yes (by omega)]; dsimp only; rw [rd_no (by rw [List.length_drop]; omega)]
      rw [e]
  · have e : rpiece xs = some ((xs.drop 2).take (num (xs.take 2)), (xs.drop 2).drop (num (xs.take 2))) := by unfold rpiece; rw [rd_yes (by omega)]; dsimp only; rw [rd_yes (by rw [List.length_drop]; omega)]
    have e2 : rpiece ((xs.drop 2).drop (num (xs.take 2))) = none := by
      rw [List.drop_drop]
      unfold rpiece
      rw [rd_yes (by rw [List.length_drop]; omega)]
      dsimp only
      rw [rd_no (by rw [List.length_drop, List.length_drop]; omega)]
    rw [e]; dsimp only; rw [e2]
theorem gupd_is {xs lost ats hv : List Nat} {n p q : Nat} (hn : xs.length = n) (hp : num (xs.take 2) = p) (hq : num ((xs.drop (2 + p)).take 2) = q) (h : 2 + p + 2 + q ≤ n) (hl : (xs.drop 2).take p = lost) (ha : (xs.drop (2 + p + 2)).take q = ats) (hh : xs.drop (2 + p + 2 + q) = hv) : guess 2 xs = match pfxsR lost with
      | none => none
      | some ls => match attrsD 0 rtZ [] ats with
        | none => none
        | some (t, kp) => match pfxsR hv with
          | none => none
          | some hs => some (⟨2, 0, 0, 0, 0, ls, hs, t⟩, updB lost kp hv) := by
  unfold guess gupd
  rw [if_pos rfl]
  have e : rpiece xs = some (lost, xs.drop (2 + p)) := by unfold rpiece; rw [rd_yes (by omega)]; dsimp only; rw [hp, rd_yes (by rw [List.length_drop]; omega), hl, List.drop_drop]
  have e2 : rpiece (xs.drop (2 + p)) = some (ats, hv) := by
    unfold rpiece
    rw [rd_yes (by rw [List.length_drop]; omega)]
    dsimp only
    rw [hq, rd_yes (by rw [List.length_drop, List.length_drop]; omega), List.drop_drop, List.drop_drop, ha, hh]
  rw [e]; dsimp only; rw [e2]; rfl
theorem heap_setCells (b : Nat) (t : TypeId) : ∀ (vs : List Value) (o : Nat) (w : World) (cs : List Value), w.heap[b]? = some (Obj.cells cs.toArray t) → o + vs.length ≤ cs.length → (w.setCells b o vs).heap[b]? = some (Obj.cells (cs.take o ++ (vs ++ cs.drop (o + vs.length))).toArray t)
  | [], o, w, cs, h, _ => by simpa [World.setCells] using h
  | v :: vs, o, w, cs, h, hl => by
    rw [World.setCells]
    have h1 : (w.setCell ⟨b, o, none⟩ v).heap[b]? = some (Obj.cells (cs.set o v).toArray t) := by
      rw [heap_setCell_same w b o _ _ v h]
      simp
    rw [List.length_cons] at hl
    rw [heap_setCells b t vs (o + 1) _ _ h1 (by rw [List.length_set]; omega)]
    congr 2
    have e1 : (cs.set o v).take (o + 1) = cs.take o ++ [v] := by
      rw [List.take_succ_eq_append_getElem (by rw [List.length_set]; omega), List.getElem_set_self]
      congr 1
      apply List.ext_getElem?
      intro i
      by_cases hi : i < o
      · rw [List.getElem?_take_of_lt hi, List.getElem?_take_of_lt hi, List.getElem?_set_ne (by omega)]
      · rw [List.getElem?_eq_none (by rw [List.length_take]; omega), List.getElem?_eq_none (by rw [List.length_take]; omega)]
    rw [e1, List.drop_set_of_lt (by omega), List.length_cons, show o + 1 + vs.length = o + (vs.length + 1) by omega, List.append_assoc]
    rfl
theorem Ko.cells (b : Nat) : ∀ (vs : List Value) (o : Nat) (w : World), Ko w b (w.setCells b o vs)
  | [], o, w => Ko.refl w b
  | v :: vs, o, w => (Ko.set w b o v).trans (Ko.cells b vs (o + 1) _)
theorem msL_route (m : Ms) (s s2 : Sl) (t : Rt) : (msL m s).take 7 ++ (rtL t s2 ++ (msL m s).drop (7 + (rtL t s2).length)) = msL { m with rt := t } { s with p := s2.p, pc := s2.pc, m := s2.m, mc := s2.mc, c := s2.c, cc := s2.cc } := rfl
/-! heads end -/
theorem smid_run {o : Oper} {ρ : Operand → Value} {W : World} (x y : Operand) (ho : o.op = .store 29 x y) {b : Nat} {m : Ms} {s s2 : Sl} {t : Rt} (hx : ρ x = .pointer (some ⟨b, 7, none⟩)) (hy : ρ y = .agg (rtL t s2).toArray) (h : MB b m s W) : (execOp ρ o).run Try.prog W = .ok .skip (W.setCells b 7 (rtL t s2)) := by
  have ht : W.there b 7 (rtL t s2).toArray.size := fun j hj => by
    refine ⟨?_, h.fro _⟩
    rw [h.cell]
    have : j < 10 := hj
    rw [List.getElem?_eq_getElem (by show 7 + j < 17; omega)]
    rfl
  unfold execOp
  simp only [ho, hx, hy, Instr.storeAt, Instr.sureAddr, Sem.run_bind, Sem.run_pure, Result.andThen_ok, run_storeVar_mid (P := Try.prog) W b 7 29 (rtL t s2).toArray ht RtK.hi (by simpa using rtL_one t s2)]
theorem MB.route {b : Nat} {m : Ms} {s : Sl} {W : World} (h : MB b m s W) (t : Rt) (s2 : Sl) : MB b { m with rt := t } { s with p := s2.p, pc := s2.pc, m := s2.m, mc := s2.mc, c := s2.c, cc := s2.cc } (W.setCells b 7 (rtL t s2)) := by
  have h1 := heap_setCells b 31 (rtL t s2) 7 W (msL m s) h (by show 7 + 10 ≤ 17; omega)
  rw [msL_route] at h1
  exact h1
theorem kept_len : ∀ (n last : Nat) (t t' : Rt) (kp kp' r : List Nat), dattrs n last t kp r = some (t', kp') → kp'.length ≤ kp.length + r.length ∧ ∀ d ∈ kp', d ∈ kp ∨ d ∈ r := fun n last t t' kp kp' r h => by
  obtain ⟨-, front, back, -, h2, h3, -⟩ := one_way n last t t' 0 kp kp' r h
  rw [h3, h2]
  refine ⟨by simp [List.length_append], fun d hd => ?_⟩
  rcases List.mem_append.1 hd with h | h
  · exact .inl h
  · exact .inr (List.mem_append_left _ h)
/-- what pvSplit answers, in one form -/
structure DsU (w : World) (xs : List Nat) (w' : World) (t : Rt) (s : Sl) (kv : Value) (kp : List Nat) (Y : Bool) : Prop where
  ok : OwnL E8 w.heap.size w' kv kp
  len : kp.length ≤ xs.length
  bel : Below w.heap.size w w'
  yes : Y = true → attrsD 0 rtZ [] xs = some (t, kp) ∧ RO w.heap.size w' t s
  no : Y = false → attrsD 0 rtZ [] xs = none
theorem ds_one {w w' : World} {xs : List Nat} {e : Ending} (h : DsPost w (attrsD 0 rtZ [] xs) e w') : ∃ t s kv kp Y, e = .returned (.tuple #[rtV t s, kv, .bool Y]) ∧ DsU w xs w' t s kv kp Y := by
  cases hx : attrsD 0 rtZ [] xs with
  | none =>
    rw [hx] at h
    obtain ⟨⟨t, s, rfl⟩, hb⟩ := h
    exact ⟨t, s, _, [], false, rfl, OwnL.nil _ _ _, by simp, hb, (fun e => by cases e), fun _ => hx⟩
  | some q =>
    obtain ⟨t, kp⟩ := q
    rw [hx] at h
    obtain ⟨s, kv, rfl, hro, hok, hb⟩ := h
    have hl := (kept_len _ _ _ _ _ _ _ hx).1
    exact ⟨t, s, kv, kp, true, rfl, hok, by simpa using hl, hb, fun _ => ⟨hx, hro⟩, fun e => by cases e⟩
/-- the lists of an update -/
theorem upd_mo {w W3 w4 w5 W6 w7 W : World} {ls hs : List (Int × Int)} {t : Rt} {la ha : Option Addr} {lc hc : Nat} {s : Sl} (hb3 : w.heap.size ≤ W3.heap.size) (h4 : OwnL E2 W3.heap.size w4 (.slice la ls.length lc) ls) (b4 : Below W3.heap.size W3 w4) (h5 : RO w4.heap.size w5 t s) (b5 : Below w4.heap.size w4 w5) (b6 : Below w5.heap.size w5 W6) (h7 : OwnL E2 W6.heap.size w7 (.slice ha hs.length hc) hs) (b7 : Below W6.heap.size W6 w7)
    (hk : ∀ g, W3.heap.size ≤ g → g < w7.heap.size → W.heap[g]? = w7.heap[g]?) (il : ∀ p ∈ ls, InA p) (ih : ∀ p ∈ hs, InA p) : MO w.heap.size W ⟨2, 0, 0, 0, 0, ls, hs, t⟩ ⟨la, lc, ha, hc, s.p, s.pc, s.m, s.mc, s.c, s.cc⟩ := by
  have z4 := b4.size
  have z5 := b5.size
  have z6 := b6.size
  have z7 := b7.size
  have r4 : ∀ g, ob la = some g → W3.heap.size ≤ g ∧ g < w4.heap.size := own_obr h4
  have r7 : ∀ g, ob ha = some g → W6.heap.size ≤ g ∧ g < w7.heap.size := own_obr h7
  have r5 := h5.rng
  have k5 : ∀ g, w4.heap.size ≤ g → g < w5.heap.size → W.heap[g]? = w5.heap[g]? := fun g h1 h2 => ((hk g (by omega) (by omega)).trans (b7.block g (by omega))).trans (b6.block g h2)
  have k4 : ∀ g, W3.heap.size ≤ g → g < w4.heap.size → W.heap[g]? = w4.heap[g]? := fun g h1 h2 => (((hk g h1 (by omega)).trans (b7.block g (by omega))).trans (b6.block g (by omega))).trans (b5.block g h2)
  have h5' : RO w4.heap.size W t s := h5.blk (fun g _ h1 h2 => k5 g h1 h2)
  refine ⟨(own_obk h4 (fun g _ h1 h2 => k4 g h1 h2)).mono hb3, (own_obk h7 (fun g _ h1 h2 => hk g (by omega) h2)).mono (by omega), ⟨h5'.p.mono (by omega), h5'.m.mono (by omega), h5'.c.mono (by omega), h5'.d, h5'.n0, h5'.n1⟩, ?_, il, ih⟩
  refine dis5 (s := s) (fun g e1 e2 => ?_) (fun g e1 e2 => ?_) (fun g e1 e2 => ?_) h5.d
  · have := r4 g e1; have := r7 g e2; omega
  · have := r4 g e1; have := r5 g e2; omega
  · have := r7 g e1; have := r5 g e2; omega
theorem gu_upd {w W3 w4 w5 W6 w7 W : World} {xs lost ats hv : List Nat} {ols ohs : Option (List (Int × Int))} {ls hs : List (Int × Int)} {la ha ka : Option Addr} {ln lc hn7 hac kn kc N : Nat} {t5 : Rt} {s5 : Sl} {kp5 : List Nat} {X Y Z : Bool} {v : Value} (hG : guess 2 xs = match pfxsR lost with
      | none => none
      | some ls => match attrsD 0 rtZ [] ats with
        | none => none
        | some (t, kp) => match pfxsR hv with
          | none => none
          | some hs => some (⟨2, 0, 0, 0, 0, ls, hs, t⟩, updB lost kp hv)) (h1 : pfxsR lost = ols) (h2 : pfxsR hv = ohs) (hX : ols.isSome = X) (hZ : ohs.isSome = Z) (hls : ols.getD [] = ls) (hhs : ohs.getD [] = hs) (hln : ls.length = ln) (hhn : hs.length = hn7)
    (hu1 : ∀ d ∈ lost, d < 256) (hu2 : ∀ d ∈ hv, d < 256) (hN3 : w.heap.size ≤ W3.heap.size) (h4 : OwnL E2 W3.heap.size w4 (.slice la ln lc) ls) (b4 : Below W3.heap.size W3 w4) (h5 : DsU w4 ats w5 t5 s5 (.slice ka kn kc) kp5 Y) (b6 : Below w5.heap.size w5 W6) (h7 : OwnL E2 W6.heap.size w7 (.slice ha hn7 hac) hs) (b7 : Below W6.heap.size W6 w7)
    (hk : ∀ g, W3.heap.size ≤ g → g < w7.heap.size → W.heap[g]? = w7.heap[g]?) (ho : OwnL E8 N W v (updB lost kp5 hv)) (hb : Below w.heap.size w W) (hNN : w.heap.size ≤ N) (a : Option Addr) :
    GuPost w a (guess 2 xs) (.returned (.tuple #[msV ⟨2, 0, 0, 0, 0, ls, hs, t5⟩ ⟨la, lc, ha, hac, s5.p, s5.pc, s5.m, s5.mc, s5.c, s5.cc⟩, v, .bool (X && (Y && Z))])) W := by
  rw [hG, h1]
  cases X with
  | false =>
    cases ols with
    | none => exact ⟨⟨_, _, _, rfl⟩, hb⟩
    | some l => cases hX
  | true =>
    cases ols with
    | none => cases hX
    | some l =>
      obtain rfl : l = ls := hls
      dsimp only
      cases Y with
      | false => rw [h5.no rfl]; exact ⟨⟨_, _, _, rfl⟩, hb⟩
      | true =>
        obtain ⟨e5, hro⟩ := h5.yes rfl
        rw [e5]
        dsimp only
        rw [h2]
        cases Z with
        | false =>
          cases ohs with
          | none => exact ⟨⟨_, _, _, rfl⟩, hb⟩
          | some l => cases hZ
        | true =>
          cases ohs with
          | none => cases hZ
          | some l2 =>
            obtain rfl : l2 = hs := hhs
            dsimp only
            have hrw := ho.row.lt
            obtain ⟨va, vc, rfl, -⟩ := ho.form
            subst hln hhn
            refine ⟨_, va, _, vc, rfl, upd_mo hN3 h4 b4 hro h5.bel b6 h7 b7 hk (pfxsR_in hu1 h1) (pfxsR_in hu2 h2), ho.lst.1, rfl, fun ad e => .inr ?_, hb⟩
            subst e
            exact Nat.le_trans hNN (hrw ad.block rfl).1
theorem upd_bytes {xs lost kp hv : List Nat} {n p kk : Nat} (hn : xs.length = n) (hu : ∀ d ∈ xs, d < 256) (h2 : 2 ≤ n) (hp : num (xs.take 2) = p) (hl : (xs.drop 2).take p = lost) (hll : lost.length = p) (hk : 2 + p = kk) : xs.take kk ++ big 2 kp.length ++ kp ++ hv = updB lost kp hv := by
  have e1 : big 2 lost.length = xs.take 2 := by rw [hll, ← hp]; exact big_num 2 _ (by rw [List.length_take]; omega) (take_u8 hu 2)
  have e2 : xs.take kk = xs.take 2 ++ lost := by rw [← hk, List.take_add, hl]
  unfold updB piece
  rw [e1, e2]
  simp only [List.append_assoc]
/-! the walk -/
set_option maxRecDepth 100000 in
set_option maxHeartbeats 32000000 in
theorem dguess2 (a : Option Addr) (n c : Nat) (xs : List Nat) (w : World) (hl : Lst E8 w a xs) (hn : xs.length = n) (hc : n ≤ c) (hu : ∀ d ∈ xs, d < 256) (hbig : n ≤ 20000) :
    Calls Try.prog 27 #[.int .i64 2, .slice a n c] w (GuPost w a (guess 2 xs)) := by
  have HL : Hid (Lst E8 w a xs) := hl
  have HLN : Hid (xs.length = n) := hn
  have HU : Hid (∀ d ∈ xs, d < 256) := hu
  clear hl hn hu
  obtain ⟨W1, hW1⟩ : ∃ W, w.alloc (Obj.cells #[.int .i64 0, .int .i64 0, .int .i64 0, .int .i64 0, .int .i64 0, .slice none 0 0, .slice none 0 0, .int .u32 0, .int .i64 0, .slice none 0 0, .int .i64 0, .int .i64 0, .int .i64 0, .int .u32 0, .slice none 0 0, .slice none 0 0, .int .i64 0] 31) = W := ⟨_, rfl⟩
  have hz1 : W1.heap.size = w.heap.size + 1 := by rw [← hW1]; simp
  obtain ⟨W2, hW2⟩ : ∃ W, W1.alloc (Obj.cells #[.int .i64 0, .int .i64 0, .int .i64 0, .int .i64 0, .int .i64 0, .slice none 0 0, .slice none 0 0, .int .u32 0, .int .i64 0, .slice none 0 0, .int .i64 0, .int .i64 0, .int .i64 0, .int .u32 0, .slice none 0 0, .slice none 0 0, .int .i64 0] 31) = W := ⟨_, rfl⟩
  have HM7 : Hid (MB (w.heap.size + 1) ms0 sZ W2) := (mb_zero hz1 hW2).1
  go_enter Try.func27, Try.ntmps27
  go_wp2_with (refine list_sstore MsK rfl _ _ rfl (b := w.heap.size + 1) (cs := msL ms0 sZ) (cs' := msL { ms0 with kind := 2 } sZ) rfl rfl HM7.out rfl rfl rfl ?_)
  intro W3 h3 hk3
  have HS : Hid (GuS w w.heap.size (w.heap.size + 1) W3 { ms0 with kind := 2 } sZ) := gu_start 2 hW1 hW2 h3.out hk3.out
  clear hW1 hW2 hz1 h3 hk3 HM7
  obtain ⟨b7, hb7⟩ : ∃ k, w.heap.size + 1 = k := ⟨_, rfl⟩
  rw [hb7] at HS ⊢
  obtain ⟨b4, hb4⟩ : ∃ k, w.heap.size = k := ⟨_, rfl⟩
  have HS0 : Hid (GuS w b4 b7 W3 { ms0 with kind := 2 } sZ) := by rw [← hb4]; exact HS.out
  rw [hb4]
  clear hb7 hb4 HS
  by_cases h2 : n < 2
  · have h2i : (n : Int) < 2 := by omega
    have HG : Hid (guess 2 xs = none) := gupd_no HLN.out (.inl h2)
    go_wp2_with (first | (refine list_sload MsK rfl _ rfl (b := b7) (cs := msL { ms0 with kind := 2 } sZ) rfl HS0.out.m7 rfl ?_) | (refine list_sstore MsK rfl _ _ rfl (b := b4) (cs := msL ms0 sZ) (cs' := msL { ms0 with kind := 2 } sZ) rfl rfl HS0.out.m4 rfl rfl rfl ?_))
    intro W5 hm5 hk5
    have HQ5 : ∀ a0, GuPost w a0 (guess 2 xs) _ W5 := fun a0 => gu_none HS0.out hk5.out HG.out
    clear hk5 HS0
    go_wp2_with fail
    exact bodyPost_ret (gu_res hm5.out rfl rfl rfl) rfl (HQ5 _)
  · have h2i : ¬ (n : Int) < 2 := by omega
    have hc2i : (2 : Int) ≤ (c : Int) := by omega
    obtain ⟨b, o, rfl, hbl, -⟩ := lst8 HL.out 0 (by rw [HLN.out]; omega)
    have HL3 : Hid (Lst E8 W3 (some ⟨b, o, none⟩) xs) := HL.out.bel HS0.out.bel
    obtain ⟨p, hp⟩ : ∃ y, num (xs.take 2) = y := ⟨_, rfl⟩
    have HP : Hid (num (xs.take 2) = p) := hp
    have hp16 : p < 65536 := by rw [← hp]; exact num_lt HU.out 2 (by rw [HLN.out]; omega)
    have HD1 : Hid (Calls Try.prog 25 #[.slice (some ⟨b, o, none⟩) 2 c] W3 fun e w' => e = .returned (.int .i64 (p : Int)) ∧ w' = W3) := by
      rw [← hp]
      exact dnum_any _ 2 _ _ _ (HL3.out.take 2) (by rw [List.length_take, HLN.out]; omega) (fun d hd => HU.out d (List.mem_of_mem_take hd)) (by omega)
    clear hp
    by_cases h4 : n < 4 + p
    · have h4i : (n : Int) < 4 + (p : Int) := by omega
      have HG : Hid (guess 2 xs = none) := gupd_no HLN.out (.inr (.inl ⟨by omega, by rw [HP.out]; exact h4⟩))
      go_wp2_with (first | (go_at_call 25; refine HD1.out.mono ?_; rintro e w' ⟨rfl, hw'⟩; rw [hw']; clear hw' w') | (refine list_sload MsK rfl _ rfl (b := b7) (cs := msL { ms0 with kind := 2 } sZ) rfl HS0.out.m7 rfl ?_) | (refine list_sstore MsK rfl _ _ rfl (b := b4) (cs := msL ms0 sZ) (cs' := msL { ms0 with kind := 2 } sZ) rfl rfl HS0.out.m4 rfl rfl rfl ?_))
      intro W5 hm5 hk5
      have HQ5 : ∀ a0, GuPost w a0 (guess 2 xs) _ W5 := fun a0 => gu_none HS0.out hk5.out HG.out
      clear hk5 HS0
      go_wp2_with fail
      exact bodyPost_ret (gu_res hm5.out rfl rfl rfl) rfl (HQ5 _)
    · have h4i : ¬ (n : Int) < 4 + (p : Int) := by omega
      obtain ⟨kk, hkk⟩ : ∃ y, 2 + p = y := ⟨_, rfl⟩
      have hkki : 2 + (p : Int) = (kk : Int) := by omega
      obtain ⟨k2, hk2⟩ : ∃ y, kk + 2 = y := ⟨_, rfl⟩
      have hk2i : (kk : Int) + 2 = (k2 : Int) := by omega
      obtain ⟨q, hq⟩ : ∃ y, num ((xs.drop kk).take 2) = y := ⟨_, rfl⟩
      have HQ : Hid (num ((xs.drop kk).take 2) = q) := hq
      have hq16 : q < 65536 := by rw [← hq]; exact num_lt (drop_u8 HU.out kk) 2 (by rw [List.length_drop, HLN.out]; omega)
      have HD2 : Hid (∀ va : Option Addr, (¬ c = kk → va = some ⟨b, o + kk, none⟩) → Calls Try.prog 25 #[.slice va (k2 - kk) (c - kk)] W3 fun e w' => e = .returned (.int .i64 (q : Int)) ∧ w' = W3) := by
        intro va hva
        rw [← hq, hva (by omega)]
        have h5 := (HL3.out.drop kk).take 2
        have h6 : o + kk * E8.k = o + kk := by show o + kk * 1 = _; omega
        rw [h6] at h5
        exact dnum_any _ _ _ _ _ h5 (by rw [List.length_take, List.length_drop, HLN.out]; omega) (fun d hd => HU.out d (List.mem_of_mem_drop (List.mem_of_mem_take hd))) (by omega)
      obtain ⟨k3, hk3⟩ : ∃ y, k2 + q = y := ⟨_, rfl⟩
      have hk3i : (k2 : Int) + (q : Int) = (k3 : Int) := by omega
      have HKS : Hid (2 + p = kk ∧ kk + 2 = k2 ∧ k2 + q = k3) := ⟨hkk, hk2, hk3⟩
      have g1 : kk ≤ k2 := by omega
      have g2 : k2 ≤ c := by omega
      have g3 : 2 ≤ kk := by omega
      have g4 : kk ≤ c := by omega
      have g5 : k2 ≤ k3 := by omega
      have g8 : kk + 2 ≤ n := by omega
      clear hq hkk hk2 hk3
      go_wp2_with (first | (go_at_call 25; refine HD1.out.mono ?_; rintro e w' ⟨rfl, hw'⟩; rw [hw']; clear hw' w') | (refine list_slice8 rfl _ _ _ rfl (b := b) (f := o) (n := n) (c := c) (l := kk) (h := k2) rfl rfl rfl g1 g2 ?_))
      intro va1 hva1 hvn1
      by_cases h3 : n < k3
      · have h3i : (n : Int) < (k3 : Int) := by omega
        have HG : Hid (guess 2 xs = none) := gupd_no HLN.out (.inr (.inr ⟨by rw [HP.out]; omega, by rw [HP.out, HKS.out.1, HQ.out]; have := HKS.out; omega⟩))
        go_wp2_with (first | (go_at_call 25; refine (HD2.out va1 hva1.out).mono ?_; rintro e w' ⟨rfl, hw'⟩; rw [hw']; clear hw' w') | (refine list_sload MsK rfl _ rfl (b := b7) (cs := msL { ms0 with kind := 2 } sZ) rfl HS0.out.m7 rfl ?_) | (refine list_sstore MsK rfl _ _ rfl (b := b4) (cs := msL ms0 sZ) (cs' := msL { ms0 with kind := 2 } sZ) rfl rfl HS0.out.m4 rfl rfl rfl ?_))
        intro W5 hm5 hk5
        have HQ5 : ∀ a0, GuPost w a0 (guess 2 xs) _ W5 := fun a0 => gu_none HS0.out hk5.out HG.out
        clear hk5 HS0
        go_wp2_with fail
        exact bodyPost_ret (gu_res hm5.out rfl rfl rfl) rfl (HQ5 _)
      · have h3i : ¬ (n : Int) < (k3 : Int) := by omega
        have g6 : k3 ≤ c := by omega
        have g7 : k3 ≤ n := by omega
        have g9 : n ≤ c := by omega
        obtain ⟨lost, hlost⟩ : ∃ y, (xs.drop 2).take p = y := ⟨_, rfl⟩
        obtain ⟨ats, hats⟩ : ∃ y, (xs.drop k2).take q = y := ⟨_, rfl⟩
        obtain ⟨hv, hhv⟩ : ∃ y, xs.drop k3 = y := ⟨_, rfl⟩
        have HLO : Hid ((xs.drop 2).take p = lost) := hlost
        have HAT : Hid ((xs.drop k2).take q = ats) := hats
        have HHV : Hid (xs.drop k3 = hv) := hhv
        have HULO : Hid (∀ d ∈ lost, d < 256) := fun d hd => HU.out d (by rw [← HLO.out] at hd; exact List.mem_of_mem_drop (List.mem_of_mem_take hd))
        have HUAT : Hid (∀ d ∈ ats, d < 256) := fun d hd => HU.out d (by rw [← HAT.out] at hd; exact List.mem_of_mem_drop (List.mem_of_mem_take hd))
        have HUHV : Hid (∀ d ∈ hv, d < 256) := fun d hd => HU.out d (by rw [← HHV.out] at hd; exact List.mem_of_mem_drop hd)
        have HLLO : Hid (lost.length = p) := by show _ = _; rw [← hlost, List.length_take, List.length_drop, HLN.out]; have := HKS.out; omega
        have HLAT : Hid (ats.length = q) := by show _ = _; rw [← hats, List.length_take, List.length_drop, HLN.out]; have := HKS.out; omega
        have HLHV : Hid (hv.length = n - k3) := by show _ = _; rw [← hhv, List.length_drop, HLN.out]
        have HGU := gupd_is (n := n) (p := p) (q := q) (lost := lost) (ats := ats) (hv := hv) HLN.out HP.out (by rw [HKS.out.1]; exact HQ.out) (by have := HKS.out; omega) hlost (by rw [HKS.out.1, HKS.out.2.1]; exact hats) (by rw [HKS.out.1, HKS.out.2.1, HKS.out.2.2]; exact hhv)
        have HGH : Hid (guess 2 xs = _) := HGU
        have HE8 : Hid (∀ x : Nat, o + x * E8.k = o + x) := fun x => by show o + x * 1 = _; omega
        clear hlost hats hhv HGU
        go_wp2_with (first | (go_at_call 25; refine (HD2.out va1 hva1.out).mono ?_; rintro e w' ⟨rfl, hw'⟩; rw [hw']; clear hw' w') | (refine list_slice8 rfl _ _ _ rfl (b := b) (f := o) (n := n) (c := c) (l := 2) (h := kk) rfl rfl rfl g3 g4 ?_))
        intro va2 hva2 hvn2
        have HV2 : Hid (Lst E8 W3 va2 lost) := by
          show Lst _ _ _ _
          rw [hva2.out (by omega), ← HLO.out]
          have h5 := (HL3.out.drop 2).take p
          exact h5
        have HR1 := dread_any va2 (kk - 2) (c - 2) lost W3 HV2.out (by rw [HLLO.out]; have := HKS.out; omega) (by omega) HULO.out (by omega)
        obtain ⟨ols, hols⟩ : ∃ y, pfxsR lost = y := ⟨_, rfl⟩
        have HOLS : Hid (pfxsR lost = ols) := hols
        rw [hols] at HR1
        clear hols HV2
        go_wp2_with fail
        refine HR1.mono ?_
        rintro e w4 ⟨v4, rfl, ho4, hb4⟩
        obtain ⟨X, hX⟩ : ∃ y, ols.isSome = y := ⟨_, rfl⟩
        have HX : Hid (ols.isSome = X) := hX
        obtain ⟨ls, hls⟩ : ∃ y, ols.getD [] = y := ⟨_, rfl⟩
        have HLS : Hid (ols.getD [] = ls) := hls
        rw [hX]
        rw [hls] at ho4
        obtain ⟨la, lc, hv4, -⟩ := ho4.form
        obtain ⟨ln, hln⟩ : ∃ y, ls.length = y := ⟨_, rfl⟩
        have HLN4 : Hid (ls.length = ln) := hln
        rw [hln] at hv4
        subst hv4
        have HO4 : Hid (OwnL E2 W3.heap.size w4 (.slice la ln lc) ls) := ho4
        have HB4 : Hid (Below W3.heap.size W3 w4) := hb4
        have HS4 : Hid (GuS w b4 b7 w4 { ms0 with kind := 2 } sZ) := HS0.out.bel2 hb4
        have HL4 : Hid (Lst E8 w4 (some ⟨b, o, none⟩) xs) := HL3.out.bel hb4
        have HN3 : Hid (w.heap.size ≤ W3.heap.size) := HS0.out.bel.size
        have H73 : Hid (b7 < W3.heap.size) := HS0.out.m7.lt
        clear HR1 ho4 hb4 hX hls hln HS0 HD1 HD2 hva1 hva2 hvn1 hvn2
        go_wp2_with (refine list_slice8 rfl _ _ _ rfl (b := b) (f := o) (n := n) (c := c) (l := k2) (h := k3) rfl rfl rfl g5 g6 ?_)
        intro va3 hva3 hvn3
        have HV3 : Hid (Lst E8 w4 va3 ats) := by
          show Lst _ _ _ _
          by_cases hck : c = k2
          · have : ats = [] := List.length_eq_zero_iff.1 (by rw [HLAT.out]; have := HKS.out; omega)
            rw [this]
            exact ⟨by simp, fun i hi => absurd hi (by simp)⟩
          · rw [hva3.out hck, ← HAT.out]
            have h5 := (HL4.out.drop k2).take q
            rw [HE8.out] at h5
            exact h5
        have HSD := dsplit_any va3 (k3 - k2) (c - k2) ats w4 HV3.out (by rw [HLAT.out]; have := HKS.out; omega) (by omega) HUAT.out (by omega)
        clear HV3
        go_wp2_with fail
        refine HSD.mono ?_
        intro e w5 hpost
        obtain ⟨t5, s5, kv5, kp5, Y, rfl, hd5⟩ := ds_one hpost
        have HU5 : Hid (DsU w4 ats w5 t5 s5 kv5 kp5 Y) := hd5
        obtain ⟨ka, kc, hkv, -⟩ := hd5.ok.form
        obtain ⟨kn, hkn⟩ : ∃ y, kp5.length = y := ⟨_, rfl⟩
        have HKN : Hid (kp5.length = kn) := hkn
        rw [hkn] at hkv
        subst hkv
        have hknq : kn ≤ q := by rw [← hkn, ← HLAT.out]; exact hd5.len
        have HS5 : Hid (GuS w b4 b7 w5 { ms0 with kind := 2 } sZ) := HS4.out.bel2 hd5.bel
        have HL5 : Hid (Lst E8 w5 (some ⟨b, o, none⟩) xs) := HL4.out.bel hd5.bel
        clear HSD hpost hd5 hkn hva3 hvn3 HS4 HL4
        go_wp2_with (refine list_sstore RtK rfl _ _ rfl (b := w5.heap.size) (cs := rtL rtZ sZ) (cs' := rtL t5 s5) rfl rfl (rb_new rfl rfl).1 rfl rfl rfl ?_)
        intro W6 h6 hk6
        obtain ⟨hz6, hb6⟩ := rb_new (w := w5) rfl rfl
        have HB6 : Hid (Below w5.heap.size w5 W6) := hb6.trans (hk6.out.below (Nat.le_refl _))
        obtain ⟨b12, hb12⟩ : ∃ k, w5.heap.size = k := ⟨_, rfl⟩
        have HB12 : Hid (w5.heap.size = b12) := hb12
        have H6 : Hid (RB b12 t5 s5 W6) := by rw [← hb12]; exact h6.out
        have HS6 : Hid (GuS w b4 b7 W6 { ms0 with kind := 2 } sZ) := HS5.out.bel2 HB6.out
        have HL6 : Hid (Lst E8 W6 (some ⟨b, o, none⟩) xs) := HL5.out.bel HB6.out
        have H712 : Hid (b7 < b12) := by show _ < _; rw [← hb12]; exact HS5.out.m7.lt
        rw [hb12]
        clear hz6 hb6 h6 hk6 hb12 HS5 HL5
        go_wp2_with (refine list_slice8n rfl _ _ rfl (b := b) (f := o) (n := n) (c := c) (l := k3) rfl rfl g7 g9 ?_)
        intro va4 hva4 hvn4
        have HV4 : Hid (∀ W, Lst E8 W (some ⟨b, o, none⟩) xs → Lst E8 W va4 hv) := by
          intro W hW
          by_cases hck : c = k3
          · have : hv = [] := List.length_eq_zero_iff.1 (by rw [HLHV.out]; omega)
            rw [this]
            exact ⟨by simp, fun i hi => absurd hi (by simp)⟩
          · rw [hva4.out hck, ← HHV.out]
            have h5 := hW.drop k3
            rw [HE8.out] at h5
            exact h5
        have HR2 := dread_any va4 (n - k3) (c - k3) hv W6 (HV4.out W6 HL6.out) HLHV.out (by omega) HUHV.out (by omega)
        obtain ⟨ohs, hohs⟩ : ∃ y, pfxsR hv = y := ⟨_, rfl⟩
        have HOHS : Hid (pfxsR hv = ohs) := hohs
        rw [hohs] at HR2
        clear hohs
        go_wp2_with fail
        refine HR2.mono ?_
        rintro e w7 ⟨v7, rfl, ho7, hb7⟩
        obtain ⟨Z, hZ⟩ : ∃ y, ohs.isSome = y := ⟨_, rfl⟩
        have HZ : Hid (ohs.isSome = Z) := hZ
        obtain ⟨hs, hhs⟩ : ∃ y, ohs.getD [] = y := ⟨_, rfl⟩
        have HHS : Hid (ohs.getD [] = hs) := hhs
        rw [hZ]
        rw [hhs] at ho7
        obtain ⟨ha, hac, hv7, -⟩ := ho7.form
        obtain ⟨hn7, hhn7⟩ : ∃ y, hs.length = y := ⟨_, rfl⟩
        have HLN7 : Hid (hs.length = hn7) := hhn7
        rw [hhn7] at hv7
        subst hv7
        have HO7 : Hid (OwnL E2 W6.heap.size w7 (.slice ha hn7 hac) hs) := ho7
        have HB7 : Hid (Below W6.heap.size W6 w7) := hb7
        have HS7 : Hid (GuS w b4 b7 w7 { ms0 with kind := 2 } sZ) := HS6.out.bel2 hb7
        have HL7 : Hid (Lst E8 w7 (some ⟨b, o, none⟩) xs) := HL6.out.bel hb7
        have H7 : Hid (RB b12 t5 s5 w7) := H6.out.blk (hb7.block _ H6.out.lt)
        clear HR2 ho7 hb7 hZ hhs hhn7 HS6 HL6 H6
        go_wp2_with fail
        have HS8 : Hid (GuS w b4 b7 w7.drew { ms0 with kind := 2 } sZ) := HS7.out.bel2 (drew_bel w7)
        have HK0 : Hid (Ko w7 b7 w7.drew) := ⟨(drew_bel w7).mono (Nat.zero_le _), rfl, fun _ _ => rfl⟩
        refine wp_region_held_drew (S := fun W => SB RtK b12 (rtL t5 s5) W) (by kernel_rfl) H7.out (fun hHeld => ?_)
        obtain ⟨X0, hX0⟩ : ∃ x, w7.drew = x := ⟨_, rfl⟩
        rw [hX0] at HS8 HK0 hHeld ⊢
        clear hX0 HS7 H7
        refine wpAnyH_take (i := 0) (v := ?_) rfl (by kernel_rfl) (by kernel_rfl) (by kernel_rfl) (fun _ _ _ h => h) (Or.inl ⟨by rfl, ?_⟩) (by assumption) ?_
        case refine_2 => intro W hSw; go_simp; try rfl
        try simp only [Act.put, List.getElem_toArray, List.getElem_cons_zero, List.setIfInBounds_toArray, List.set_cons_zero, List.set_cons_succ]
        refine wpAnyH_take (i := 1) (v := .agg (rtL t5 s5).toArray) rfl (by kernel_rfl) (by kernel_rfl) (by kernel_rfl) (fun _ _ _ h => h) (Or.inl ⟨by rfl, fun W hSw => sload_run RtK (.tmp 12) rfl rfl hSw rfl⟩) (by assumption) ?_
        try simp only [Act.put, List.getElem_toArray, List.getElem_cons_zero, List.getElem_cons_succ, List.setIfInBounds_toArray, List.set_cons_zero, List.set_cons_succ]
        refine wpAnyH_take (i := 2) (v := ?_) rfl (by kernel_rfl) (by kernel_rfl) (by kernel_rfl) (fun _ _ _ h => h) (Or.inl ⟨by rfl, ?_⟩) (by assumption) ?_
        case refine_2 => intro W hSw; go_simp; try rfl
        try simp only [Act.put, List.getElem_toArray, List.getElem_cons_zero, List.getElem_cons_succ, List.setIfInBounds_toArray, List.set_cons_zero, List.set_cons_succ]
        refine wpAnyH_take (i := 3) (v := ?_) rfl (by kernel_rfl) (by kernel_rfl) (by kernel_rfl) (fun _ _ _ h => h) (Or.inl ⟨by rfl, ?_⟩) (by assumption) ?_
        case refine_2 => intro W hSw; go_simp; try rfl
        try simp only [Act.put, List.getElem_toArray, List.getElem_cons_zero, List.getElem_cons_succ, List.setIfInBounds_toArray, List.set_cons_zero, List.set_cons_succ]
        refine wpAnyH_ready (rs := [4]) (by kernel_rfl) (by simp) ?_
        refine AllReadyH.cons rfl (fun K hK => ?_) AllReadyH.nil
        have f3 : X0.frozen? ⟨b7, 5, none⟩ = false := HS8.out.m7.fro 5
        have c3 : X0.cell? ⟨b7, 5, none⟩ = some _ := HS8.out.m7.cell 5
        have HS9 : Hid (GuS w b4 b7 (X0.setCell ⟨b7, 5, none⟩ (.slice la ln lc)) { ms0 with kind := 2, lost := ls } { sZ with l := la, lc := lc }) := HS8.out.set 5 _ (by rw [← HLN4.out]; rfl)
        have HK1 : Hid (Ko w7 b7 (X0.setCell ⟨b7, 5, none⟩ (.slice la ln lc))) := HK0.out.trans (Ko.set _ _ _ _)
        go_simp
        refine hK.out _ _ (SB.blk hHeld ((Ko.set X0 b7 5 (.slice la ln lc)).block b12 (by have := H712.out; omega))) (fun hHeld => ?_)
        clear hK K f3 c3 HS8 HK0
        obtain ⟨X1, hX1⟩ : ∃ X, X0.setCell ⟨b7, 5, none⟩ (.slice la ln lc) = X := ⟨_, rfl⟩
        rw [hX1] at HS9 HK1 hHeld ⊢
        clear hX1
        try simp only [Act.put, List.getElem_toArray, List.getElem_cons_zero, List.getElem_cons_succ]
        refine wpAnyH_take (i := 5) (v := ?_) rfl (by kernel_rfl) (by kernel_rfl) (by kernel_rfl) (fun _ _ _ h => h) (Or.inl ⟨by rfl, ?_⟩) (by assumption) ?_
        case refine_2 => intro W hSw; go_simp; try rfl
        try simp only [Act.put, List.getElem_toArray, List.getElem_cons_zero, List.getElem_cons_succ, List.setIfInBounds_toArray, List.set_cons_zero, List.set_cons_succ]
        refine wpAnyH_ready (rs := [6]) (by kernel_rfl) (by simp) ?_
        refine AllReadyH.cons rfl (fun K hK => ?_) AllReadyH.nil
        refine step_runs rfl (smid_run (.tmp 108) (.tmp 105) rfl (t := t5) (s2 := s5) rfl rfl HS9.out.m7) ?_
        have HS10 : Hid (GuS w b4 b7 (X1.setCells b7 7 (rtL t5 s5)) ⟨2, 0, 0, 0, 0, ls, [], t5⟩ ⟨la, lc, none, 0, s5.p, s5.pc, s5.m, s5.mc, s5.c, s5.cc⟩) := HS9.out.ko (Ko.cells b7 _ 7 X1) (HS9.out.m7.route t5 s5)
        have HK2 : Hid (Ko w7 b7 (X1.setCells b7 7 (rtL t5 s5))) := HK1.out.trans (Ko.cells b7 _ 7 X1)
        refine hK.out _ _ (SB.blk hHeld ((Ko.cells b7 (rtL t5 s5) 7 X1).block b12 (by have := H712.out; omega))) (fun hHeld => ?_)
        obtain ⟨X2, hX2⟩ : ∃ X, X1.setCells b7 7 (rtL t5 s5) = X := ⟨_, rfl⟩
        rw [hX2] at HS10 HK2 hHeld ⊢
        clear hK K HS9 HK1 hX2
        try simp only [Act.put, List.getElem_toArray, List.getElem_cons_zero, List.getElem_cons_succ]
        refine wpAnyH_take (i := 7) (v := ?_) rfl (by kernel_rfl) (by kernel_rfl) (by kernel_rfl) (fun _ _ _ h => h) (Or.inl ⟨by rfl, ?_⟩) (by assumption) ?_
        case refine_2 => intro W hSw; go_simp; try rfl
        try simp only [Act.put, List.getElem_toArray, List.getElem_cons_zero, List.getElem_cons_succ, List.setIfInBounds_toArray, List.set_cons_zero, List.set_cons_succ]
        refine wpAnyH_ready (rs := [8]) (by kernel_rfl) (by simp) ?_
        refine AllReadyH.cons rfl (fun K hK => ?_) AllReadyH.nil
        have f3 : X2.frozen? ⟨b7, 6, none⟩ = false := HS10.out.m7.fro 6
        have c3 : X2.cell? ⟨b7, 6, none⟩ = some _ := HS10.out.m7.cell 6
        have HS11 : Hid (GuS w b4 b7 (X2.setCell ⟨b7, 6, none⟩ (.slice ha hn7 hac)) ⟨2, 0, 0, 0, 0, ls, hs, t5⟩ ⟨la, lc, ha, hac, s5.p, s5.pc, s5.m, s5.mc, s5.c, s5.cc⟩) := HS10.out.set 6 _ (by rw [← HLN7.out]; rfl)
        have HK3 : Hid (Ko w7 b7 (X2.setCell ⟨b7, 6, none⟩ (.slice ha hn7 hac))) := HK2.out.trans (Ko.set _ _ _ _)
        go_simp
        refine hK.out _ _ (SB.blk hHeld ((Ko.set X2 b7 6 (.slice ha hn7 hac)).block b12 (by have := H712.out; omega))) (fun hHeld => ?_)
        clear hK K f3 c3 HS10 HK2
        obtain ⟨X3, hX3⟩ : ∃ X, X2.setCell ⟨b7, 6, none⟩ (.slice ha hn7 hac) = X := ⟨_, rfl⟩
        rw [hX3] at HS11 HK3 hHeld ⊢
        clear hX3
        try simp only [Act.put, List.getElem_toArray, List.getElem_cons_zero, List.getElem_cons_succ]
        refine wpAnyH_done (by kernel_rfl) ?_ _
        clear hHeld
        have HS3 : Hid (GuS w b4 b7 X3 ⟨2, 0, 0, 0, 0, ls, hs, t5⟩ ⟨la, lc, ha, hac, s5.p, s5.pc, s5.m, s5.mc, s5.c, s5.cc⟩) := HS11.out
        have HL8 : Hid (Lst E8 X3 (some ⟨b, o, none⟩) xs) := HL.out.bel HS3.out.bel
        have HOK8 : Hid (OwnL E8 w4.heap.size X3 (.slice ka kn kc) kp5) := by
          refine HU5.out.ok.blk (fun g e => ?_)
          have h5 := HU5.out.ok.row.lt g e
          have z4 := HB4.out.size
          have z6 := HB6.out.size
          exact ((HK3.out.block g (by have := H73.out; omega)).trans (HB7.out.block g (by omega))).trans (HB6.out.block g h5.2)
        clear HS11
        obtain ⟨ho9, hb9⟩ := own_made0 E8 (W := X3) rfl
        have HO9 : Hid (OwnL E8 X3.heap.size (X3.alloc (Obj.cells #[] 5)) (.slice (some ⟨X3.heap.size, 0, none⟩) 0 0) []) := ho9
        have HB9 : Hid (Below X3.heap.size X3 (X3.alloc (Obj.cells #[] 5))) := hb9
        have HN9 : Hid (X3.heap.size ≤ (X3.alloc (Obj.cells #[] 5)).heap.size) := hb9.size
        have HL9 : Hid (([] : List Nat).length + kk ≤ 1099511627775) := by show _ ≤ _; simp; omega
        have HT9 : Hid (Lst E8 (X3.alloc (Obj.cells #[] 5)) (some ⟨b, o, none⟩) (xs.take kk)) := (HL8.out.bel hb9).take kk
        have HTL : Hid ((xs.take kk).length = kk) := by show _ = _; rw [List.length_take, HLN.out]; omega
        have HNI9 : Hid ((some (⟨b, o, none⟩ : Addr)) = none → kk = 0 ∧ c = 0) := fun e => by cases e
        have hkci : (kk : Int) ≤ (c : Int) := by omega
        have hkc0 : (0 : Int) ≤ (kk : Int) := by omega
        clear ho9 hb9
        go_wp2_with (at_builtin; refine list_appL E8 rfl _ _ 22 rfl rfl X3.heap.size (.slice (some ⟨X3.heap.size, 0, none⟩) 0 0) [] (xs.take kk) (some ⟨b, o, none⟩) kk c _ HL9.out rfl HO9.out rfl HT9.out HNI9.out HTL.out HN9.out ?_)
        intro v10 w10 ho10 hg10 ha10
        have HO10 : Hid (OwnL E8 X3.heap.size w10 v10 (xs.take kk)) := ho10.out
        have HB10 : Hid (Below X3.heap.size X3 w10) := HB9.out.grown hg10.out HN9.out (fun g e => (HO9.out.row.lt g e).1)
        clear ho10 hg10 ha10 HO9 HB9 HN9 HL9 HT9 HNI9
        go_wp2_with fail
        refine (rbytes_any kn 2 (by decide) (by omega) w10).mono ?_
        rintro e w11 ⟨v11, rfl, ho11, hb11⟩
        obtain ⟨ba, bc, hv11, -, hnl11, -⟩ := ho11.form
        rw [big_len] at hv11 hnl11
        subst hv11
        have HO11 : Hid (OwnL E8 X3.heap.size w11 v10 (xs.take kk)) := HO10.out.bel hb11
        have HB11 : Hid (Below X3.heap.size X3 w11) := HB10.out.trans (hb11.mono HB10.out.size)
        have HN11 : Hid (X3.heap.size ≤ w11.heap.size) := HB11.out.size
        have HT11 : Hid (Lst E8 w11 ba (big 2 kn)) := ho11.lst.1
        have HNI11 : Hid (ba = none → 2 = 0 ∧ bc = 0) := hnl11
        have HBL : Hid ((big 2 kn).length = 2) := big_len 2 kn
        have HBY : Hid ((xs.take kk).length + 2 ≤ 1099511627775) := by show _ ≤ _; rw [HTL.out]; omega
        clear ho11 hb11 hnl11 HO10 HB10
        go_wp2_with (at_builtin; refine list_appL E8 rfl _ _ 22 rfl rfl X3.heap.size v10 (xs.take kk) (big 2 kn) ba 2 bc w11 HBY.out rfl HO11.out rfl HT11.out HNI11.out HBL.out HN11.out ?_)
        intro v12 w12 ho12 hg12 ha12
        have HO12 : Hid (OwnL E8 X3.heap.size w12 v12 (xs.take kk ++ big 2 kn)) := ho12.out
        have HB12' : Hid (Below X3.heap.size X3 w12) := HB11.out.grown hg12.out HN11.out (fun g e => (HO11.out.row.lt g e).1)
        have HN12 : Hid (X3.heap.size ≤ w12.heap.size) := HB12'.out.size
        have HT12 : Hid (Lst E8 w12 ka kp5) := (HOK8.out.bel HB12'.out).lst.1
        have HNI12 : Hid (ka = none → kn = 0 ∧ kc = 0) := by
          obtain ⟨ka', kc', e, -, hn', -⟩ := HOK8.out.form
          rw [HKN.out] at e hn'
          injection e with e1 e2 e3
          subst e1 e3
          exact hn'
        have HBY2 : Hid ((xs.take kk ++ big 2 kn).length + kn ≤ 1099511627775) := by show _ ≤ _; rw [List.length_append, HTL.out, big_len]; omega
        clear ho12 hg12 ha12 HO11 HB11 HN11 HT11 HNI11 HBY
        go_wp2_with (at_builtin; refine list_appL E8 rfl _ _ 22 rfl rfl X3.heap.size v12 (xs.take kk ++ big 2 kn) kp5 ka kn kc w12 HBY2.out rfl HO12.out rfl HT12.out HNI12.out HKN.out HN12.out ?_)
        intro v13 w13 ho13 hg13 ha13
        have HO13 : Hid (OwnL E8 X3.heap.size w13 v13 (xs.take kk ++ big 2 kn ++ kp5)) := by have h5 := ho13.out; rw [← List.append_assoc] at h5; exact h5
        have HB13 : Hid (Below X3.heap.size X3 w13) := HB12'.out.grown hg13.out HN12.out (fun g e => (HO12.out.row.lt g e).1)
        clear ho13 hg13 ha13 HO12 HB12' HN12 HT12 HNI12 HBY2
        go_wp2_with fail
        obtain ⟨va5, hva5⟩ : ∃ y : Option Addr, (if c = k3 then some (⟨b, o, none⟩ : Addr) else some ⟨b, o + k3, none⟩) = y := ⟨_, rfl⟩
        have HVA5 : Hid ((if c = k3 then some (⟨b, o, none⟩ : Addr) else some ⟨b, o + k3, none⟩) = va5) := hva5
        clear hva5
        refine wp_region_held_drew (S := fun W => SB MsK b7 (msL ⟨2, 0, 0, 0, 0, ls, hs, t5⟩ ⟨la, lc, ha, hac, s5.p, s5.pc, s5.m, s5.mc, s5.c, s5.cc⟩) W) (by kernel_rfl) (HS3.out.m7.blk (HB13.out.block _ HS3.out.m7.lt)) (fun hHeld => ?_)
        refine wpAnyH_take (i := 0) (v := .agg (msL ⟨2, 0, 0, 0, 0, ls, hs, t5⟩ ⟨la, lc, ha, hac, s5.p, s5.pc, s5.m, s5.mc, s5.c, s5.cc⟩).toArray) rfl (by kernel_rfl) (by kernel_rfl) (by kernel_rfl) (fun _ _ _ h => h) (Or.inl ⟨by rfl, fun W hSw => sload_run MsK (.tmp 7) rfl rfl hSw rfl⟩) (by assumption) ?_
        try simp only [Act.put, List.getElem_toArray, List.getElem_cons_zero, List.setIfInBounds_toArray, List.set_cons_zero, List.set_cons_succ]
        refine wpAnyH_take (i := 1) (v := ?_) rfl (by kernel_rfl) (by kernel_rfl) (by kernel_rfl) (fun _ _ _ h => h) (Or.inl ⟨by rfl, ?_⟩) (by assumption) ?_
        case refine_2 => intro W hSw; go_simp; try rfl
        try simp only [Act.put, List.getElem_toArray, List.getElem_cons_zero, List.getElem_cons_succ, List.setIfInBounds_toArray, List.set_cons_zero, List.set_cons_succ]
        refine wpAnyH_take (i := 2) (v := ?_) rfl (by kernel_rfl) (by kernel_rfl) (by kernel_rfl) (fun _ _ _ h => h) (Or.inl ⟨by rfl, ?_⟩) (by assumption) ?_
        case refine_2 => intro W hSw; go_simp; try rfl
        try simp only [Act.put, List.getElem_toArray, List.getElem_cons_zero, List.getElem_cons_succ, List.setIfInBounds_toArray, List.set_cons_zero, List.set_cons_succ]
        refine wpAnyH_take (i := 3) (v := ?_) rfl (by kernel_rfl) (by kernel_rfl) (by kernel_rfl) (fun _ _ _ h => h) (Or.inl ⟨by rfl, ?_⟩) (by assumption) ?_
        case refine_2 => intro W hSw; go_simp; try rfl
        try simp only [Act.put, List.getElem_toArray, List.getElem_cons_zero, List.getElem_cons_succ, List.setIfInBounds_toArray, List.set_cons_zero, List.set_cons_succ]
        refine wpAnyH_take (i := 4) (v := .int .i64 (k2 : Int)) rfl (by kernel_rfl) (by kernel_rfl) (by kernel_rfl) (fun _ _ _ h => h) (Or.inl ⟨by rfl, fun W hSw => by go_simp; rw [IntWalk.i64_in _ (by omega)]⟩) (by assumption) ?_
        try simp only [Act.put, List.getElem_toArray, List.getElem_cons_zero, List.getElem_cons_succ, List.setIfInBounds_toArray, List.set_cons_zero, List.set_cons_succ]
        refine wpAnyH_take (i := 5) (v := ?_) rfl (by kernel_rfl) (by kernel_rfl) (by kernel_rfl) (fun _ _ _ h => h) (Or.inl ⟨by rfl, ?_⟩) (by assumption) ?_
        case refine_2 => intro W hSw; go_simp; try rfl
        try simp only [Act.put, List.getElem_toArray, List.getElem_cons_zero, List.getElem_cons_succ, List.setIfInBounds_toArray, List.set_cons_zero, List.set_cons_succ]
        refine wpAnyH_take (i := 6) (v := .int .i64 (k3 : Int)) rfl (by kernel_rfl) (by kernel_rfl) (by kernel_rfl) (fun _ _ _ h => h) (Or.inl ⟨by rfl, fun W hSw => by go_simp; rw [IntWalk.i64_in _ (by omega)]⟩) (by assumption) ?_
        try simp only [Act.put, List.getElem_toArray, List.getElem_cons_zero, List.getElem_cons_succ, List.setIfInBounds_toArray, List.set_cons_zero, List.set_cons_succ]
        refine wpAnyH_take (i := 7) (v := .slice va5 (n - k3) (c - k3)) rfl (by kernel_rfl) (by kernel_rfl) (by kernel_rfl) (fun _ _ _ h => h) (Or.inl ⟨by rfl, fun W hSw => by rw [← HVA5.out]; exact slice8n_run (.tmp 125) (.tmp 129) rfl rfl rfl g7 g9⟩) (by assumption) ?_
        try simp only [Act.put, List.getElem_toArray, List.getElem_cons_zero, List.getElem_cons_succ, List.setIfInBounds_toArray, List.set_cons_zero, List.set_cons_succ]
        refine wpAnyH_take (i := 9) (v := ?_) rfl (by kernel_rfl) (by kernel_rfl) (by kernel_rfl) (fun _ _ _ h => h) (Or.inl ⟨by rfl, ?_⟩) (by assumption) ?_
        case refine_2 => intro W hSw; go_simp; try rfl
        try simp only [Act.put, List.getElem_toArray, List.getElem_cons_zero, List.getElem_cons_succ, List.setIfInBounds_toArray, List.set_cons_zero, List.set_cons_succ]
        have HS13 : Hid (GuS w b4 b7 w13.drew ⟨2, 0, 0, 0, 0, ls, hs, t5⟩ ⟨la, lc, ha, hac, s5.p, s5.pc, s5.m, s5.mc, s5.c, s5.cc⟩) := (HS3.out.bel2 HB13.out).bel2 (drew_bel w13)
        have HO13d : Hid (OwnL E8 X3.heap.size w13.drew v13 (xs.take kk ++ big 2 kn ++ kp5)) := HO13.out.bel (drew_bel w13)
        have HB13d : Hid (Below X3.heap.size X3 w13.drew) := HB13.out.trans ((drew_bel w13).mono HB13.out.size)
        obtain ⟨Y0, hY0⟩ : ∃ x, w13.drew = x := ⟨_, rfl⟩
        rw [hY0] at HS13 HO13d HB13d hHeld ⊢
        have HN13 : Hid (X3.heap.size ≤ Y0.heap.size) := HB13d.out.size
        have HT13 : Hid (Lst E8 Y0 va5 hv) := by
          show Lst _ _ _ _
          rw [← HVA5.out]
          by_cases hck : c = k3
          · have : hv = [] := List.length_eq_zero_iff.1 (by rw [HLHV.out]; omega)
            rw [this]
            exact ⟨by simp, fun i hi => absurd hi (by simp)⟩
          · rw [if_neg hck, ← HHV.out]
            have h5 := (HL8.out.bel HB13d.out).drop k3
            rw [HE8.out] at h5
            exact h5
        have HNI13 : Hid (va5 = none → n - k3 = 0 ∧ c - k3 = 0) := fun e => by
          rw [← HVA5.out] at e
          split at e <;> cases e
        have HBY3 : Hid ((xs.take kk ++ big 2 kn ++ kp5).length + (n - k3) ≤ 1099511627775) := by show _ ≤ _; rw [List.length_append, List.length_append, HTL.out, big_len, HKN.out]; omega
        clear hY0 HO13 HB13 HS3
        refine wpAnyH_ready (rs := [8]) (by kernel_rfl) (by simp) ?_
        refine AllReadyH.cons rfl (fun K hK => ?_) AllReadyH.nil
        refine step_appL E8 (.tmp 124) (.tmp 130) 22 rfl rfl X3.heap.size v13 (xs.take kk ++ big 2 kn ++ kp5) hv va5 (n - k3) (c - k3) Y0 HBY3.out rfl HO13d.out rfl HT13.out HNI13.out HLHV.out HN13.out rfl (fun v14 w14 ho14 hg14 ha14 => ?_)
        have HO14 : Hid (OwnL E8 X3.heap.size w14 v14 (updB lost kp5 hv)) := by
          have h5 := ho14.out
          rw [← HKN.out, upd_bytes HLN.out HU.out (by omega) HP.out HLO.out HLLO.out HKS.out.1] at h5
          exact h5
        have HB14 : Hid (Below X3.heap.size X3 w14) := HB13d.out.grown hg14.out HN13.out (fun g e => (HO13d.out.row.lt g e).1)
        have HNB : Hid (∀ g, v13.ownBlock = some g → X3.heap.size ≤ g) := fun g e => (HO13d.out.row.lt g e).1
        have H7X : Hid (b7 < X3.heap.size) := by show _ < _; rw [HK3.out.size]; have := HB4.out.size; have := HU5.out.bel.size; have := HB6.out.size; have := HB7.out.size; have := H73.out; omega
        have HS14 : Hid (GuS w b4 b7 w14 ⟨2, 0, 0, 0, 0, ls, hs, t5⟩ ⟨la, lc, ha, hac, s5.p, s5.pc, s5.m, s5.mc, s5.c, s5.cc⟩) := by
          refine ⟨HS13.out.m4.blk (hg14.out.block _ HS13.out.m4.lt (fun e => ?_)), HS13.out.m7.blk (hg14.out.block _ HS13.out.m7.lt (fun e => ?_)), HS13.out.bel.grown hg14.out HS13.out.bel.size (fun g e => ?_), HS13.out.h4, HS13.out.h47⟩
          · have := HNB.out _ e.symm; have := HS13.out.h47; have := H7X.out; omega
          · have := HNB.out _ e.symm; have := H7X.out; omega
          · have := HNB.out _ e; have := HS13.out.h4; have := HS13.out.h47; have := H7X.out; omega
        refine hK.out _ _ HS14.out.m7 (fun hHeld => ?_)
        clear hK K ho14 hg14 ha14 HS13 HO13d HB13d HN13 HT13 HNI13 HBY3 HNB
        try simp only [Act.put, List.getElem_toArray, List.getElem_cons_zero, List.getElem_cons_succ, List.setIfInBounds_toArray, List.set_cons_zero, List.set_cons_succ]
        have HFIN : Hid (∀ W, Ko w14 b4 W → GuPost w (some ⟨b, o, none⟩) (guess 2 xs) (.returned (.tuple #[msV ⟨2, 0, 0, 0, 0, ls, hs, t5⟩ ⟨la, lc, ha, hac, s5.p, s5.pc, s5.m, s5.mc, s5.c, s5.cc⟩, v14, .bool (X && (Y && Z))])) W) := by
          intro W hkW
          have h4l := HS14.out.h4
          have h47 := HS14.out.h47
          have z4 := HB4.out.size
          have z5 := HU5.out.bel.size
          have z6 := HB6.out.size
          have z7 := HB7.out.size
          have hx3 := HK3.out.size
          refine gu_upd (N := X3.heap.size) HGH.out HOLS.out HOHS.out HX.out HZ.out HLS.out HHS.out HLN4.out HLN7.out HULO.out HUHV.out HN3.out HO4.out HB4.out HU5.out HB6.out HO7.out HB7.out (fun g h1 h2 => ?_) (HO14.out.blk (fun g e => hkW.block g ?_)) (HS14.out.bel.trans (hkW.below h4l)) (by have := HN3.out; omega) _
          · have h73 := H73.out
            exact ((hkW.block g (by omega)).trans (HB14.out.block g (by omega))).trans (HK3.out.block g (by omega))
          · have := (HO14.out.row.lt g e).1
            have := H7X.out
            omega
        clear HGH HOLS HOHS HX HZ HLS HHS HO4 HB4 HU5 HB6 HO7 HB7 HO14 HB14 HK3 HOK8 HL8
        cases X <;> cases Y <;> cases Z
        all_goals
          refine wpAnyH_take (i := 10) (v := ?_) rfl (by kernel_rfl) (by kernel_rfl) (by kernel_rfl) (fun _ _ _ h => h) (Or.inl ⟨by rfl, ?_⟩) (by assumption) ?_
          case refine_2 => intro W hSw; go_simp; try rfl
          try simp only [Act.put, List.getElem_toArray, List.getElem_cons_zero, List.getElem_cons_succ, List.setIfInBounds_toArray, List.set_cons_zero, List.set_cons_succ]
          first
            | (refine wpAnyH_take (i := 11) (v := ?_) rfl (by kernel_rfl) (by kernel_rfl) (by kernel_rfl) (fun _ _ _ h => h) (Or.inl ⟨by rfl, ?_⟩) (by assumption) ?_
               case refine_2 => intro W hSw; go_simp; try rfl)
            | (refine wpAnyH_take (i := 11) (v := undef) rfl (by kernel_rfl) (by kernel_rfl) (by kernel_rfl) (fun _ _ _ h => h) (Or.inr ⟨by rfl, rfl⟩) (by assumption) ?_)
          try simp only [Act.put, List.getElem_toArray, List.getElem_cons_zero, List.getElem_cons_succ, List.setIfInBounds_toArray, List.set_cons_zero, List.set_cons_succ]
          refine wpAnyH_take (i := 12) (v := ?_) rfl (by kernel_rfl) (by kernel_rfl) (by kernel_rfl) (fun _ _ _ h => h) (Or.inl ⟨by rfl, ?_⟩) (by assumption) ?_
          case refine_2 => intro W hSw; go_simp; try rfl
          try simp only [Act.put, List.getElem_toArray, List.getElem_cons_zero, List.getElem_cons_succ, List.setIfInBounds_toArray, List.set_cons_zero, List.set_cons_succ]
          refine wpAnyH_take (i := 13) (v := ?_) rfl (by kernel_rfl) (by kernel_rfl) (by kernel_rfl) (fun _ _ _ h => h) (Or.inl ⟨by rfl, ?_⟩) (by assumption) ?_
          case refine_2 => intro W hSw; go_simp; try rfl
          try simp only [Act.put, List.getElem_toArray, List.getElem_cons_zero, List.getElem_cons_succ, List.setIfInBounds_toArray, List.set_cons_zero, List.set_cons_succ]
          first
            | (refine wpAnyH_take (i := 14) (v := ?_) rfl (by kernel_rfl) (by kernel_rfl) (by kernel_rfl) (fun _ _ _ h => h) (Or.inl ⟨by rfl, ?_⟩) (by assumption) ?_
               case refine_2 => intro W hSw; go_simp; try rfl)
            | (refine wpAnyH_take (i := 14) (v := undef) rfl (by kernel_rfl) (by kernel_rfl) (by kernel_rfl) (fun _ _ _ h => h) (Or.inr ⟨by rfl, rfl⟩) (by assumption) ?_)
          try simp only [Act.put, List.getElem_toArray, List.getElem_cons_zero, List.getElem_cons_succ, List.setIfInBounds_toArray, List.set_cons_zero, List.set_cons_succ]
          refine wpAnyH_take (i := 15) (v := ?_) rfl (by kernel_rfl) (by kernel_rfl) (by kernel_rfl) (fun _ _ _ h => h) (Or.inl ⟨by rfl, ?_⟩) (by assumption) ?_
          case refine_2 => intro W hSw; go_simp; try rfl
          try simp only [Act.put, List.getElem_toArray, List.getElem_cons_zero, List.getElem_cons_succ, List.setIfInBounds_toArray, List.set_cons_zero, List.set_cons_succ]
          refine wpAnyH_ready (rs := [16]) (by kernel_rfl) (by simp) ?_
          refine AllReadyH.cons rfl (fun K hK => ?_) AllReadyH.nil
          refine sstore_step MsK (.tmp 4) (.tmp 123) rfl (b := b4) (cs := msL ms0 sZ) (cs' := msL ⟨2, 0, 0, 0, 0, ls, hs, t5⟩ ⟨la, lc, ha, hac, s5.p, s5.pc, s5.m, s5.mc, s5.c, s5.cc⟩) rfl rfl HS14.out.m4 rfl rfl rfl rfl (fun W15 h15 hk15 => ?_)
          have HQ5 := HFIN.out W15 hk15.out
          refine hK.out _ _ (HS14.out.m7.blk (hk15.out.block b7 (by have := HS14.out.h47; omega))) (fun hHeld => ?_)
          clear hK K hk15
          try simp only [Act.put, List.getElem_toArray, List.getElem_cons_zero, List.getElem_cons_succ]
          refine wpAnyH_take (i := 17) (v := ?_) rfl (by kernel_rfl) (by kernel_rfl) (by kernel_rfl) (fun _ _ _ h => h) (Or.inl ⟨by rfl, ?_⟩) (by assumption) ?_
          case refine_2 => intro W hSw; go_simp; try rfl
          try simp only [Act.put, List.getElem_toArray, List.getElem_cons_zero, List.getElem_cons_succ, List.setIfInBounds_toArray, List.set_cons_zero, List.set_cons_succ]
          refine wpAnyH_take (i := 18) (v := ?_) rfl (by kernel_rfl) (by kernel_rfl) (by kernel_rfl) (fun _ _ _ h => h) (Or.inl ⟨by rfl, ?_⟩) (by assumption) ?_
          case refine_2 => intro W hSw; go_simp; try rfl
          try simp only [Act.put, List.getElem_toArray, List.getElem_cons_zero, List.getElem_cons_succ, List.setIfInBounds_toArray, List.set_cons_zero, List.set_cons_succ]
          refine wpAnyH_done (by kernel_rfl) ?_ _
          clear hHeld
          go_wp2_with fail
          exact bodyPost_ret (gu_res h15.out rfl rfl rfl) rfl HQ5
end Go.Proofs.Ytghlgkpfcpcopaa.Pv
