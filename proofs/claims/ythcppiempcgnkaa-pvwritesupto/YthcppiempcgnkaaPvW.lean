/- The document's frame; what its Encode answers, in plain words. -/
import Derived.Test.YthcppiempcgnkaaPvP
import Derived.Test.YthcppiempcgnkaaPvR
import Derived.Test.YthcppiempcgnkaaPvS
import Derived.Test.YthcppiempcgnkaaPvT
import Derived.Test.YthcppiempcgnkaaPvU
namespace Go.Proofs.Ythcppiempcgnkaa.Pv
open Go.ChangeShapes Go.WideShapes Go.ChangeAt Go.RowKit Go.Joins Go.Proofs.Ythcppiempcgnkaa.PM Go.Proofs.Ythcppiempcgnkaa.Ask Go.Proofs.Ythcppiempcgnkaa.Ge
set_option linter.unusedVariables false

theorem bare_all {r : Rt} (h : bare r = true) : r = ⟨0, 0, [], 0, 0, 0, 0, [], [], 0⟩ := by
  unfold bare at h
  simp only [decide_eq_true_eq, List.length_eq_zero_iff] at h
  obtain ⟨pa, pn, path, org, pref, med, next, marks, clus, auth⟩ := r
  obtain ⟨rfl, rfl, rfl, rfl, rfl, rfl, rfl, rfl, rfl, rfl⟩ := h
  rfl
/-- of the form: where nothing is had, the route tells nothing -/
theorem form_bare {m : Ms} (h : form m = true) (h0 : m.hv.length = 0) : bare m.rt = true := by
  unfold form at h
  split at h
  · rw [Bool.and_eq_true] at h; exact h.2
  · split at h
    · rw [Bool.and_eq_true, if_neg (by omega)] at h; exact h.2
    · split at h <;> (rw [Bool.and_eq_true] at h; exact h.2)
theorem form_none {m : Ms} (h : form m = true) (hk : ¬ m.kind = 2) : m.lost.length = 0 ∧ m.hv.length = 0 := by
  unfold form at h
  rw [if_neg hk] at h
  split at h
  · simp only [Bool.and_eq_true, decide_eq_true_eq] at h; omega
  · split at h <;> (simp only [Bool.and_eq_true, decide_eq_true_eq] at h; omega)
theorem form_code {m : Ms} (h : form m = true) (hk : ¬ m.kind = 4) : m.code = 0 := by
  unfold form at h
  split at h
  · simp only [Bool.and_eq_true, decide_eq_true_eq] at h; omega
  · split at h
    · simp only [Bool.and_eq_true, decide_eq_true_eq] at h; omega
    · simp only [Bool.and_eq_true, decide_eq_true_eq] at h; omega
theorem attrs_nil {m : Ms} (h : form m = true) (h0 : m.hv.length = 0) : attrs m = [] := by
  have hb := bare_all (form_bare h h0)
  unfold attrs attrIf
  rw [h0, hb]
  rfl
theorem range_eq {m : Ms} (hk : 1 ≤ m.kind ∧ m.kind ≤ 4) (h : form m = true) : rrange m = inR m := by
  by_cases k2 : m.kind = 2
  · have hc := form_code h (by omega)
    unfold rrange inR openR routeR isNo isNm
    rw [if_neg (by omega), if_pos k2, hc, decide_eq_false (by omega)]
    have e0 : wi 0 0 255 = true := rfl
    rw [e0]
    rw [Bool.eq_iff_iff]
    simp only [Bool.and_eq_true, Bool.not_false, Bool.true_or, decide_eq_true_eq, true_and]
    constructor
    · rintro ⟨⟨⟨⟨⟨h1, h2⟩, h3⟩, h4⟩, ⟨h5, h6⟩, h7⟩, h8, h9, h10⟩
      exact ⟨⟨⟨⟨⟨⟨⟨⟨⟨h1, h5⟩, h6⟩, h7⟩, h8⟩, h2⟩, h9⟩, h3⟩, h10⟩, h4⟩
    · rintro ⟨⟨⟨⟨⟨⟨⟨⟨⟨h1, h5⟩, h6⟩, h7⟩, h8⟩, h2⟩, h9⟩, h3⟩, h10⟩, h4⟩
      exact ⟨⟨⟨⟨⟨h1, h2⟩, h3⟩, h4⟩, ⟨h5, h6⟩, h7⟩, h8, h9, h10⟩
  · have hb := bare_all (form_bare h (form_none h k2).2)
    have e1 : (wi m.rt.org 0 2 && m.rt.path.all (fun x => wi x 1 4294967295) && m.rt.marks.all (fun x => wi x 0 4294967295) && m.rt.clus.all (fun x => wi x 0 4294967295) && (wi m.rt.med 0 4294967295 && wi m.rt.pref 0 4294967295 && wi m.rt.auth 0 4294967295) && decide (m.rt.path.length ≤ 64 ∧ m.rt.marks.length ≤ 32 ∧ m.rt.clus.length ≤ 32)) = true := by rw [hb]; rfl
    simp only [Bool.and_eq_true] at e1
    obtain ⟨⟨⟨⟨⟨e1, e2⟩, e3⟩, e4⟩, ⟨e5, e6⟩, e7⟩, e8⟩ := e1
    unfold rrange
    rw [e1, e2, e3, e4, e5, e6, e7, e8]
    simp only [Bool.and_true, Bool.and_self]
    by_cases k1 : m.kind = 1
    · have hc := form_code h (by omega)
      have e0 : wi 0 0 255 = true := rfl
      unfold openR inR isNm
      rw [hc, e0, decide_eq_true k1, if_pos k1]
      simp
    · unfold openR inR
      rw [decide_eq_false k1, if_neg k1, if_neg k2]
      by_cases k4 : m.kind = 4
      · rw [if_pos k4]; simp
      · rw [if_neg k4, form_code h k4]; rfl
theorem enc_len {m : Ms} (h : CK m) : encE m = if 1024 < 9 + (body m).length then 6 else 0 := by
  unfold encE
  rw [if_pos (ck_to h)]
  by_cases hb : 1024 < m.lost.length + m.hv.length
  · rw [if_pos hb]
    have k2 : m.kind = 2 := by
      by_cases k2 : m.kind = 2
      · exact k2
      · have := form_none h.f k2; omega
    have h1 := (pfxsB_len (ps := m.lost) (fun p hp => by have := allV_len h.vl p hp; omega)).2
    have h2 := (pfxsB_len (ps := m.hv) (fun p hp => by have := allV_len h.vh p hp; omega)).2
    rw [if_pos]
    unfold body updB piece
    rw [if_neg (by omega), if_pos k2]
    simp only [List.length_append, big_len]
    omega
  · rw [if_neg hb]
theorem enc_err {m : Ms} {t : Int} (h : chk m = t) (h0 : ¬ t = 0) : encE m = t ∧ encB m = [] := by
  have e : encE m = t := by unfold encE; rw [h, if_neg h0]
  exact ⟨e, by unfold encB; rw [e, if_neg h0]⟩
set_option maxRecDepth 100000 in
set_option maxHeartbeats 8000000 in
theorem rwhole_any (kind : Nat) (hk : kind < 256) (a : Option Addr) (n cap : Nat) (xs : List Nat) (hn : n ≤ 60000) (w : World) (hp : Pc8 w a n cap xs) (hu : ∀ d ∈ xs, d < 256) :
    Calls Try.prog 26 #[.int .i64 (kind : Int), .slice a n cap] w fun e w' => ∃ v, e = .returned v ∧ OwnL E8 w.heap.size w' v (frame kind xs) ∧ Below w.heap.size w w' := by
  have HP : Hid (Pc8 w a n cap xs) := hp
  have HU : Hid (∀ d ∈ xs, d < 256) := hu
  obtain ⟨sm, hsm⟩ : ∃ r, ssum 65535 (kind :: xs) = r := ⟨_, rfl⟩
  have HUK : Hid (∀ d ∈ [kind] ++ xs, d < 256) := fun d hd => by
    rcases List.mem_append.1 hd with e | e
    · simp at e; omega
    · exact hu d e
  have hsm1 : sm < 65536 := by rw [← hsm]; exact ssum_lt _ _ (by decide) HUK.out
  have HSM : Hid (ssum 65535 ([kind] ++ xs) = sm) := hsm
  obtain ⟨sz, hsz⟩ : ∃ z, 9 + n = z := ⟨_, rfl⟩
  have HSZ : Hid (9 + n = sz) := hsz
  have w9 : (n : Int) + 9 = (sz : Int) := by omega
  have hsz6 : sz ≤ 60009 := by omega
  have hku : IntKind.u8.wrap (kind : Int) = (kind : Int) := by rw [IntKind.wrap_u8]; omega
  clear hp hu hsm hsz
  go_enter Try.func26, Try.ntmps26
  obtain ⟨w0, hw0⟩ : ∃ w0, w.alloc (Obj.cells #[.int .u8 255, .int .u8 255, .int .u8 255, .int .u8 255] 5) = w0 := ⟨_, rfl⟩
  obtain ⟨m1, m2⟩ := own_made E8 (W := w) (W' := w0) [255, 255, 255, 255] 4 rfl (by decide) hw0
  obtain ⟨v0, hv0⟩ : ∃ v, Value.slice (some ⟨w.heap.size, 0, none⟩) 4 4 = v := ⟨_, rfl⟩
  have HO0 : Hid (OwnL E8 w.heap.size w0 v0 [255, 255, 255, 255]) := by rw [← hv0]; exact m1
  have HB0 : Hid (Below w.heap.size w w0) := m2
  clear m1 m2
  go_wp2_with fail
  refine (rbytes_any sz 2 (by decide) (by omega) w0).mono ?_
  rintro e w1 ⟨v1, rfl, ho1, hb1⟩
  obtain ⟨a1, c1, hv1, -⟩ := ho1.form
  rw [big_len] at hv1
  subst hv1
  have HP1 : Hid (Pc8 w1 a1 2 c1 (big 2 sz)) := OwnL.pc8 ho1
  have HB1 : Hid (Below w.heap.size w w1) := HB0.out.trans (hb1.mono HB0.out.size)
  have HO1 : Hid (OwnL E8 w.heap.size w1 v0 [255, 255, 255, 255]) := HO0.out.bel hb1
  clear ho1 hb1 HO0 HB0 hw0 hv0
  go_wp2_with (at_builtin; refine list_appL E8 rfl _ _ 32 rfl rfl w.heap.size v0 [255, 255, 255, 255] (big 2 sz) a1 2 c1 w1 (by simp) rfl HO1.out rfl HP1.out.l HP1.out.nil HP1.out.len HB1.out.size ?_)
  intro v2 w2 ho2 hg2 hat2
  obtain ⟨X2, hX2⟩ : ∃ X, [255, 255, 255, 255] ++ big 2 sz = X := ⟨_, rfl⟩
  have HX2 : Hid ([255, 255, 255, 255] ++ big 2 sz = X2) := hX2
  have HO2 : Hid (OwnL E8 w.heap.size w2 v2 X2) := by rw [← hX2]; exact ho2.out
  have HB2 : Hid (Below w.heap.size w w2) := HB1.out.grown hg2.out HB1.out.size (fun g e => (HO1.out.row.lt g e).1)
  have hl2 : X2.length = 6 := by rw [← hX2, List.length_append, big_len]; rfl
  clear ho2 hg2 hat2 HO1 HB1 HP1 hX2
  obtain ⟨wB, hwB⟩ : ∃ W, w2.alloc (Obj.cells #[.int .u8 (kind : Int)] 5) = W := ⟨_, rfl⟩
  have HWE : Hid (w2.alloc (Obj.cells (E8.enc kind).toArray E8.e) = wB) := hwB
  have hbB : Below w2.heap.size w2 wB := by rw [← hwB]; exact (Below.refl _ w2).alloc (Nat.le_refl _) _
  have HOB : Hid (OwnL E8 w.heap.size wB v2 X2) := HO2.out.bel hbB
  have HBB : Hid (Below w.heap.size w wB) := HB2.out.trans (hbB.mono HB2.out.size)
  have hby : X2.length ≤ 1099511627775 := by omega
  clear hbB
  go_wp2_with (at_builtin; refine list_app1 E8 rfl _ _ 32 rfl rfl w.heap.size v2 X2 kind hby (w := w2) wB rfl HOB.out rfl HBB.out.size HWE.out.symm ?_)
  intro v3 w3 ho3 hg3 hat3
  obtain ⟨X3, hX3⟩ : ∃ X, X2 ++ [kind] = X := ⟨_, rfl⟩
  have HX3 : Hid (X2 ++ [kind] = X3) := hX3
  have HO3 : Hid (OwnL E8 w.heap.size w3 v3 X3) := by rw [← hX3]; exact ho3.out
  have HB3 : Hid (Below w.heap.size w w3) := HBB.out.grown hg3.out HBB.out.size (fun g e => (HOB.out.row.lt g e).1)
  have hl3 : X3.length = 7 := by rw [← hX3, List.length_append, hl2]; rfl
  clear ho3 hg3 hat3 HO2 HB2 hX3 hwB HWE HOB HBB hby
  obtain ⟨w4, hw4⟩ : ∃ W, w3.alloc (Obj.cells #[.int .u8 (kind : Int)] 5) = W := ⟨_, rfl⟩
  obtain ⟨m1, m2⟩ := own_made E8 (W := w3) (W' := w4) [kind] 1 rfl (by decide) hw4
  obtain ⟨v4, hv4⟩ : ∃ v, Value.slice (some ⟨w3.heap.size, 0, none⟩) 1 1 = v := ⟨_, rfl⟩
  have HO4 : Hid (OwnL E8 w3.heap.size w4 v4 [kind]) := by rw [← hv4]; exact m1
  have HB4 : Hid (Below w3.heap.size w3 w4) := m2
  have HP4 : Hid (Pc8 w4 a n cap xs) := HP.out.bel (HB3.out.trans (m2.mono HB3.out.size))
  have hby4 : [kind].length + n ≤ 1099511627775 := by simp; omega
  clear m1 m2
  go_wp2_with (at_builtin; refine list_appL E8 rfl _ _ 32 rfl rfl w3.heap.size v4 [kind] xs a n cap w4 hby4 rfl HO4.out rfl HP4.out.l HP4.out.nil HP4.out.len HB4.out.size ?_)
  intro v5 w5 ho5 hg5 hat5
  obtain ⟨a5, n5, c5, hv5, hos5, hl5⟩ : ∃ a n c, v5 = .slice a n c ∧ OwnL E8 w3.heap.size w5 (.slice a n c) ([kind] ++ xs) ∧ ([kind] ++ xs).length = n := by
    obtain ⟨a, c, e, -⟩ := ho5.out.form
    exact ⟨a, _, c, e, by rw [← e]; exact ho5.out, rfl⟩
  subst hv5
  have HO5 : Hid (OwnL E8 w3.heap.size w5 (.slice a5 n5 c5) ([kind] ++ xs)) := hos5
  have HB5 : Hid (Below w3.heap.size w3 w5) := HB4.out.grown hg5.out HB4.out.size (fun g e => (HO4.out.row.lt g e).1)
  clear ho5 hg5 hat5 hos5 HO4 HB4 HP4 hw4 hv4 hby4 hl5
  go_wp2_with fail
  refine (rsum_any a5 c5 ([kind] ++ xs) n5 (OwnL.pc8 HO5.out).len w5 (OwnL.pc8 HO5.out).l HUK.out sm HSM.out).mono ?_
  rintro e w6 ⟨rfl, hw6⟩
  rw [hw6]
  clear hw6 w6
  have HO6 : Hid (OwnL E8 w.heap.size w5 v3 X3) := HO3.out.bel HB5.out
  have HB6 : Hid (Below w.heap.size w w5) := HB3.out.trans (HB5.out.mono HB3.out.size)
  clear HO5 HB5 HO3 HB3
  go_wp2_with fail
  refine (rbytes_any sm 2 (by decide) (by omega) w5).mono ?_
  rintro e w7 ⟨v7, rfl, ho7, hb7⟩
  obtain ⟨a7, c7, hv7, -⟩ := ho7.form
  rw [big_len] at hv7
  subst hv7
  have HP7 : Hid (Pc8 w7 a7 2 c7 (big 2 sm)) := OwnL.pc8 ho7
  have HB7 : Hid (Below w.heap.size w w7) := HB6.out.trans (hb7.mono HB6.out.size)
  have HO7 : Hid (OwnL E8 w.heap.size w7 v3 X3) := HO6.out.bel hb7
  have hby7 : X3.length + 2 ≤ 1099511627775 := by omega
  clear ho7 hb7 HO6 HB6
  go_wp2_with (at_builtin; refine list_appL E8 rfl _ _ 32 rfl rfl w.heap.size v3 X3 (big 2 sm) a7 2 c7 w7 hby7 rfl HO7.out rfl HP7.out.l HP7.out.nil HP7.out.len HB7.out.size ?_)
  intro v8 w8 ho8 hg8 hat8
  obtain ⟨X8, hX8⟩ : ∃ X, X3 ++ big 2 sm = X := ⟨_, rfl⟩
  have HX8 : Hid (X3 ++ big 2 sm = X8) := hX8
  have HO8 : Hid (OwnL E8 w.heap.size w8 v8 X8) := by rw [← hX8]; exact ho8.out
  have HB8 : Hid (Below w.heap.size w w8) := HB7.out.grown hg8.out HB7.out.size (fun g e => (HO7.out.row.lt g e).1)
  have hl8 : X8.length = 9 := by rw [← hX8, List.length_append, hl3, big_len]
  have HP8 : Hid (Pc8 w8 a n cap xs) := HP.out.bel HB8.out
  have hby8 : X8.length + n ≤ 1099511627775 := by omega
  clear ho8 hg8 hat8 HO7 HB7 HP7 hX8 hby7
  go_wp2_with (at_builtin; refine list_appL E8 rfl _ _ 32 rfl rfl w.heap.size v8 X8 xs a n cap w8 hby8 rfl HO8.out rfl HP8.out.l HP8.out.nil HP8.out.len HB8.out.size ?_)
  intro v9 w9' ho9 hg9 hat9
  have HO9 : Hid (OwnL E8 w.heap.size w9' v9 (frame kind xs)) := by
    unfold frame
    have e := HSM.out
    rw [List.singleton_append] at e
    rw [e, HP8.out.len, HSZ.out, big1 hk, HX2.out, HX3.out, HX8.out]
    exact ho9.out
  have HB9 : Hid (Below w.heap.size w w9') := HB8.out.grown hg9.out HB8.out.size (fun g e => (HO8.out.row.lt g e).1)
  clear ho9 hg9 hat9 HO8 HB8 HP8 hby8
  obtain ⟨va5, vc5, rfl, -⟩ := HO9.out.form
  obtain ⟨vl, hvl⟩ : ∃ q, (frame kind xs).length = q := ⟨_, rfl⟩
  rw [hvl] at HO9
  rw [hvl]
  clear hvl
  go_wp2_with fail
  go_ret
  exact ⟨_, rfl, HO9.out, HB9.out⟩
end Go.Proofs.Ythcppiempcgnkaa.Pv
