/- The document's frame; what its Encode answers, in plain words. The document's Encode. -/
import Derived.Test.YtghlgkpfcpcopaaPvP
import Derived.Test.YtghlgkpfcpcopaaMgG
import Derived.Test.YtghlgkpfcpcopaaMgE
namespace Go.Proofs.Ytghlgkpfcpcopaa.Pv
open Go.ChangeShapes Go.WideShapes Go.ChangeAt Go.RowKit Go.Joins Go.Proofs.Ytghlgkpfcpcopaa.PM Go.Proofs.Ytghlgkpfcpcopaa.Ask Go.Proofs.Ytghlgkpfcpcopaa.Ge
set_option linter.unusedVariables false

theorem bare_all {r : Rt} (h : bare r = true) : r = ⟨0, 0, [], 0, 0, 0, 0, [], [], 0⟩ := by
  unfold bare at h
  simp only [decide_eq_true_eq, List.length_eq_zero_iff] at h
  obtain ⟨pa, pn, path, org, pref, med, next, marks, clus, auth⟩ := r
  obtain ⟨rfl, rfl, rfl, rfl, rfl, rfl, rfl, rfl, rfl, rfl⟩ := h
  rfl
/-- of the form: where nothing is had, the route tells nothing -/
theorem form_bare {m : Ms} (h : form m = true) (h0 : m.hv.length = 0) : bare m.rt = true := by
  unfold form at h
  split at h
  · rw [Bool.and_eq_true] at h; exact h.2
  · split at h
    · rw [Bool.and_eq_true, if_neg (by omega)] at h; exact h.2
    · split at h <;> (rw [Bool.and_eq_true] at h; exact h.2)
theorem form_none {m : Ms} (h : form m = true) (hk : ¬ m.kind = 2) : m.lost.length = 0 ∧ m.hv.length = 0 := by
  unfold form at h
  rw [if_neg hk] at h
  split at h
  · simp only [Bool.and_eq_true, decide_eq_true_eq] at h; omega
  · split at h <;> (simp only [Bool.and_eq_true, decide_eq_true_eq] at h; omega)
theorem form_code {m : Ms} (h : form m = true) (hk : ¬ m.kind = 4) : m.code = 0 := by
  unfold form at h
  split at h
  · simp only [Bool.and_eq_true, decide_eq_true_eq] at h; omega
  · split at h
    · simp only [Bool.and_eq_true, decide_eq_true_eq] at h; omega
    · simp only [Bool.and_eq_true, decide_eq_true_eq] at h; omega
theorem attrs_nil {m : Ms} (h : form m = true) (h0 : m.hv.length = 0) : attrs m = [] := by
  have hb := bare_all (form_bare h h0)
  unfold attrs attrIf
  rw [h0, hb]
  rfl
theorem range_eq {m : Ms} (hk : 1 ≤ m.kind ∧ m.kind ≤ 4) (h : form m = true) : rrange m = inR m := by
  by_cases k2 : m.kind = 2
  · have hc := form_code h (by omega)
    unfold rrange inR openR routeR isNo isNm
    rw [if_neg (by omega), if_pos k2, hc, decide_eq_false (by omega)]
    have e0 : wi 0 0 255 = true := rfl
    rw [e0]
    rw [Bool.eq_iff_iff]
    simp only [Bool.and_eq_true, Bool.not_false, Bool.true_or, decide_eq_true_eq, true_and]
    constructor
    · rintro ⟨⟨⟨⟨⟨h1, h2⟩, h3⟩, h4⟩, ⟨h5, h6⟩, h7⟩, h8, h9, h10⟩
      exact ⟨⟨⟨⟨⟨⟨⟨⟨⟨h1, h5⟩, h6⟩, h7⟩, h8⟩, h2⟩, h9⟩, h3⟩, h10⟩, h4⟩
    · rintro ⟨⟨⟨⟨⟨⟨⟨⟨⟨h1, h5⟩, h6⟩, h7⟩, h8⟩, h2⟩, h9⟩, h3⟩, h10⟩, h4⟩
      exact ⟨⟨⟨⟨⟨h1, h2⟩, h3⟩, h4⟩, ⟨h5, h6⟩, h7⟩, h8, h9, h10⟩
  · have hb := bare_all (form_bare h (form_none h k2).2)
    have e1 : (wi m.rt.org 0 2 && m.rt.path.all (fun x => wi x 1 4294967295) && m.rt.marks.all (fun x => wi x 0 4294967295) && m.rt.clus.all (fun x => wi x 0 4294967295) && (wi m.rt.med 0 4294967295 && wi m.rt.pref 0 4294967295 && wi m.rt.auth 0 4294967295) && decide (m.rt.path.length ≤ 64 ∧ m.rt.marks.length ≤ 32 ∧ m.rt.clus.length ≤ 32)) = true := by rw [hb]; rfl
    simp only [Bool.and_eq_true] at e1
    obtain ⟨⟨⟨⟨⟨e1, e2⟩, e3⟩, e4⟩, ⟨e5, e6⟩, e7⟩, e8⟩ := e1
    unfold rrange
    rw [e1, e2, e3, e4, e5, e6, e7, e8]
    simp only [Bool.and_true, Bool.and_self]
    by_cases k1 : m.kind = 1
    · have hc := form_code h (by omega)
      have e0 : wi 0 0 255 = true := rfl
      unfold openR inR isNm
      rw [hc, e0, decide_eq_true k1, if_pos k1]
      simp
    · unfold openR inR
      rw [decide_eq_false k1, if_neg k1, if_neg k2]
      by_cases k4 : m.kind = 4
      · rw [if_pos k4]; simp
      · rw [if_neg k4, form_code h k4]; rfl
theorem enc_len2 {m : Ms} (h : CK m) : encE m = if 1024 < 9 + (body m).length then 6 else 0 := by
  unfold encE
  rw [if_pos (ck_to h)]
  by_cases hb : 1024 < m.lost.length + m.hv.length
  · rw [if_pos hb]
    have k2 : m.kind = 2 := by
      by_cases k2 : m.kind = 2
      · exact k2
      · have := form_none h.f k2; omega
    have h1 := (pfxsB_len (ps := m.lost) (fun p hp => by have := allV_len h.vl p hp; omega)).2
    have h2 := (pfxsB_len (ps := m.hv) (fun p hp => by have := allV_len h.vh p hp; omega)).2
    rw [if_pos]
    unfold body updB piece
    rw [if_neg (by omega), if_pos k2]
    simp only [List.length_append, big_len]
    omega
  · rw [if_neg hb]
theorem enc_err {m : Ms} {t : Int} (h : chk m = t) (h0 : ¬ t = 0) : encE m = t ∧ encB m = [] := by
  have e : encE m = t := by unfold encE; rw [h, if_neg h0]
  exact ⟨e, by unfold encB; rw [e, if_neg h0]⟩
set_option maxRecDepth 100000 in
set_option maxHeartbeats 8000000 in
theorem rwhole_any (kind : Nat) (hk : kind < 256) (a : Option Addr) (n cap : Nat) (xs : List Nat) (hn : n ≤ 60000) (w : World) (hp : Pc8 w a n cap xs) (hu : ∀ d ∈ xs, d < 256) :
    Calls Try.prog 53 #[.int .i64 (kind : Int), .slice a n cap] w fun e w' => ∃ v, e = .returned v ∧ OwnL E8 w.heap.size w' v (frame kind xs) ∧ Below w.heap.size w w' := by
  have HP : Hid (Pc8 w a n cap xs) := hp
  have HU : Hid (∀ d ∈ xs, d < 256) := hu
  obtain ⟨sm, hsm⟩ : ∃ r, ssum 65535 (kind :: xs) = r := ⟨_, rfl⟩
  have HUK : Hid (∀ d ∈ [kind] ++ xs, d < 256) := fun d hd => by
    rcases List.mem_append.1 hd with e | e
    · simp at e; omega
    · exact hu d e
  have hsm1 : sm < 65536 := by rw [← hsm]; exact ssum_lt _ _ (by decide) HUK.out
  have HSM : Hid (ssum 65535 ([kind] ++ xs) = sm) := hsm
  obtain ⟨sz, hsz⟩ : ∃ z, 9 + n = z := ⟨_, rfl⟩
  have HSZ : Hid (9 + n = sz) := hsz
  have w9 : (n : Int) + 9 = (sz : Int) := by omega
  have hsz6 : sz ≤ 60009 := by omega
  have hku : IntKind.u8.wrap (kind : Int) = (kind : Int) := by rw [IntKind.wrap_u8]; omega
  clear hp hu hsm hsz
  go_enter Try.func53, Try.ntmps53
  obtain ⟨w0, hw0⟩ : ∃ w0, w.alloc (Obj.cells #[.int .u8 255, .int .u8 255, .int .u8 255, .int .u8 255] 5) = w0 := ⟨_, rfl⟩
  obtain ⟨m1, m2⟩ := own_made E8 (W := w) (W' := w0) [255, 255, 255, 255] 4 rfl (by decide) hw0
  obtain ⟨v0, hv0⟩ : ∃ v, Value.slice (some ⟨w.heap.size, 0, none⟩) 4 4 = v := ⟨_, rfl⟩
  have HO0 : Hid (OwnL E8 w.heap.size w0 v0 [255, 255, 255, 255]) := by rw [← hv0]; exact m1
  have HB0 : Hid (Below w.heap.size w w0) := m2
  clear m1 m2
  go_wp2_with fail
  refine (rbytes_any sz 2 (by decide) (by omega) w0).mono ?_
  rintro e w1 ⟨v1, rfl, ho1, hb1⟩
  obtain ⟨a1, c1, hv1, -⟩ := ho1.form
  rw [big_len] at hv1
  subst hv1
  have HP1 : Hid (Pc8 w1 a1 2 c1 (big 2 sz)) := OwnL.pc8 ho1
  have HB1 : Hid (Below w.heap.size w w1) := HB0.out.trans (hb1.mono HB0.out.size)
  have HO1 : Hid (OwnL E8 w.heap.size w1 v0 [255, 255, 255, 255]) := HO0.out.bel hb1
  clear ho1 hb1 HO0 HB0 hw0 hv0
  go_wp2_with (at_builtin; refine list_appL E8 rfl _ _ 22 rfl rfl w.heap.size v0 [255, 255, 255, 255] (big 2 sz) a1 2 c1 w1 (by simp) rfl HO1.out rfl HP1.out.l HP1.out.nil HP1.out.len HB1.out.size ?_)
  intro v2 w2 ho2 hg2 hat2
  obtain ⟨X2, hX2⟩ : ∃ X, [255, 255, 255, 255] ++ big 2 sz = X := ⟨_, rfl⟩
  have HX2 : Hid ([255, 255, 255, 255] ++ big 2 sz = X2) := hX2
  have HO2 : Hid (OwnL E8 w.heap.size w2 v2 X2) := by rw [← hX2]; exact ho2.out
  have HB2 : Hid (Below w.heap.size w w2) := HB1.out.grown hg2.out HB1.out.size (fun g e => (HO1.out.row.lt g e).1)
  have hl2 : X2.length = 6 := by rw [← hX2, List.length_append, big_len]; rfl
  clear ho2 hg2 hat2 HO1 HB1 HP1 hX2
  obtain ⟨wB, hwB⟩ : ∃ W, w2.alloc (Obj.cells #[.int .u8 (kind : Int)] 5) = W := ⟨_, rfl⟩
  have HWE : Hid (w2.alloc (Obj.cells (E8.enc kind).toArray E8.e) = wB) := hwB
  have hbB : Below w2.heap.size w2 wB := by rw [← hwB]; exact (Below.refl _ w2).alloc (Nat.le_refl _) _
  have HOB : Hid (OwnL E8 w.heap.size wB v2 X2) := HO2.out.bel hbB
  have HBB : Hid (Below w.heap.size w wB) := HB2.out.trans (hbB.mono HB2.out.size)
  have hby : X2.length ≤ 1099511627775 := by omega
  clear hbB
  go_wp2_with (at_builtin; refine list_app1 E8 rfl _ _ 22 rfl rfl w.heap.size v2 X2 kind hby (w := w2) wB rfl HOB.out rfl HBB.out.size HWE.out.symm ?_)
  intro v3 w3 ho3 hg3 hat3
  obtain ⟨X3, hX3⟩ : ∃ X, X2 ++ [kind] = X := ⟨_, rfl⟩
  have HX3 : Hid (X2 ++ [kind] = X3) := hX3
  have HO3 : Hid (OwnL E8 w.heap.size w3 v3 X3) := by rw [← hX3]; exact ho3.out
  have HB3 : Hid (Below w.heap.size w w3) := HBB.out.grown hg3.out HBB.out.size (fun g e => (HOB.out.row.lt g e).1)
  have hl3 : X3.length = 7 := by rw [← hX3, List.length_append, hl2]; rfl
  clear ho3 hg3 hat3 HO2 HB2 hX3 hwB HWE HOB HBB hby
  obtain ⟨w4, hw4⟩ : ∃ W, w3.alloc (Obj.cells #[.int .u8 (kind : Int)] 5) = W := ⟨_, rfl⟩
  obtain ⟨m1, m2⟩ := own_made E8 (W := w3) (W' := w4) [kind] 1 rfl (by decide) hw4
  obtain ⟨v4, hv4⟩ : ∃ v, Value.slice (some ⟨w3.heap.size, 0, none⟩) 1 1 = v := ⟨_, rfl⟩
  have HO4 : Hid (OwnL E8 w3.heap.size w4 v4 [kind]) := by rw [← hv4]; exact m1
  have HB4 : Hid (Below w3.heap.size w3 w4) := m2
  have HP4 : Hid (Pc8 w4 a n cap xs) := HP.out.bel (HB3.out.trans (m2.mono HB3.out.size))
  have hby4 : [kind].length + n ≤ 1099511627775 := by simp; omega
  clear m1 m2
  go_wp2_with (at_builtin; refine list_appL E8 rfl _ _ 22 rfl rfl w3.heap.size v4 [kind] xs a n cap w4 hby4 rfl HO4.out rfl HP4.out.l HP4.out.nil HP4.out.len HB4.out.size ?_)
  intro v5 w5 ho5 hg5 hat5
  obtain ⟨a5, n5, c5, hv5, hos5, hl5⟩ : ∃ a n c, v5 = .slice a n c ∧ OwnL E8 w3.heap.size w5 (.slice a n c) ([kind] ++ xs) ∧ ([kind] ++ xs).length = n := by
    obtain ⟨a, c, e, -⟩ := ho5.out.form
    exact ⟨a, _, c, e, by rw [← e]; exact ho5.out, rfl⟩
  subst hv5
  have HO5 : Hid (OwnL E8 w3.heap.size w5 (.slice a5 n5 c5) ([kind] ++ xs)) := hos5
  have HB5 : Hid (Below w3.heap.size w3 w5) := HB4.out.grown hg5.out HB4.out.size (fun g e => (HO4.out.row.lt g e).1)
  clear ho5 hg5 hat5 hos5 HO4 HB4 HP4 hw4 hv4 hby4 hl5
  go_wp2_with fail
  refine (rsum_any a5 c5 ([kind] ++ xs) n5 (OwnL.pc8 HO5.out).len w5 (OwnL.pc8 HO5.out).l HUK.out sm HSM.out).mono ?_
  rintro e w6 ⟨rfl, hw6⟩
  rw [hw6]
  clear hw6 w6
  have HO6 : Hid (OwnL E8 w.heap.size w5 v3 X3) := HO3.out.bel HB5.out
  have HB6 : Hid (Below w.heap.size w w5) := HB3.out.trans (HB5.out.mono HB3.out.size)
  clear HO5 HB5 HO3 HB3
  go_wp2_with fail
  refine (rbytes_any sm 2 (by decide) (by omega) w5).mono ?_
  rintro e w7 ⟨v7, rfl, ho7, hb7⟩
  obtain ⟨a7, c7, hv7, -⟩ := ho7.form
  rw [big_len] at hv7
  subst hv7
  have HP7 : Hid (Pc8 w7 a7 2 c7 (big 2 sm)) := OwnL.pc8 ho7
  have HB7 : Hid (Below w.heap.size w w7) := HB6.out.trans (hb7.mono HB6.out.size)
  have HO7 : Hid (OwnL E8 w.heap.size w7 v3 X3) := HO6.out.bel hb7
  have hby7 : X3.length + 2 ≤ 1099511627775 := by omega
  clear ho7 hb7 HO6 HB6
  go_wp2_with (at_builtin; refine list_appL E8 rfl _ _ 22 rfl rfl w.heap.size v3 X3 (big 2 sm) a7 2 c7 w7 hby7 rfl HO7.out rfl HP7.out.l HP7.out.nil HP7.out.len HB7.out.size ?_)
  intro v8 w8 ho8 hg8 hat8
  obtain ⟨X8, hX8⟩ : ∃ X, X3 ++ big 2 sm = X := ⟨_, rfl⟩
  have HX8 : Hid (X3 ++ big 2 sm = X8) := hX8
  have HO8 : Hid (OwnL E8 w.heap.size w8 v8 X8) := by rw [← hX8]; exact ho8.out
  have HB8 : Hid (Below w.heap.size w w8) := HB7.out.grown hg8.out HB7.out.size (fun g e => (HO7.out.row.lt g e).1)
  have hl8 : X8.length = 9 := by rw [← hX8, List.length_append, hl3, big_len]
  have HP8 : Hid (Pc8 w8 a n cap xs) := HP.out.bel HB8.out
  have hby8 : X8.length + n ≤ 1099511627775 := by omega
  clear ho8 hg8 hat8 HO7 HB7 HP7 hX8 hby7
  go_wp2_with (at_builtin; refine list_appL E8 rfl _ _ 22 rfl rfl w.heap.size v8 X8 xs a n cap w8 hby8 rfl HO8.out rfl HP8.out.l HP8.out.nil HP8.out.len HB8.out.size ?_)
  intro v9 w9' ho9 hg9 hat9
  have HO9 : Hid (OwnL E8 w.heap.size w9' v9 (frame kind xs)) := by
    unfold frame
    have e := HSM.out
    rw [List.singleton_append] at e
    rw [e, HP8.out.len, HSZ.out, big1 hk, HX2.out, HX3.out, HX8.out]
    exact ho9.out
  have HB9 : Hid (Below w.heap.size w w9') := HB8.out.grown hg9.out HB8.out.size (fun g e => (HO8.out.row.lt g e).1)
  clear ho9 hg9 hat9 HO8 HB8 HP8 hby8
  obtain ⟨va5, vc5, rfl, -⟩ := HO9.out.form
  obtain ⟨vl, hvl⟩ : ∃ q, (frame kind xs).length = q := ⟨_, rfl⟩
  rw [hvl] at HO9
  rw [hvl]
  clear hvl
  go_wp2_with fail
  go_ret
  exact ⟨_, rfl, HO9.out, HB9.out⟩
end Go.Proofs.Ytghlgkpfcpcopaa.Pv
namespace Go.Proofs.Ytghlgkpfcpcopaa.Pv
open Go.ChangeShapes Go.WideShapes Go.ChangeAt Go.RowKit Go.Joins Go.Proofs.Ytghlgkpfcpcopaa.PM Go.Proofs.Ytghlgkpfcpcopaa.Ask Go.Proofs.Ytghlgkpfcpcopaa.Ge
set_option linter.unusedVariables false

theorem chk13 {m : Ms} (h1 : isK m.kind = false) : chk m = 13 := by unfold chk; rw [if_pos h1]
theorem chk4 {m : Ms} (h1 : isK m.kind = true) (h2 : form m = false) : chk m = 4 := by unfold chk; rw [h1, if_neg (by decide), if_pos h2]
theorem chk3 {m : Ms} (h1 : isK m.kind = true) (h2 : form m = true) (h3 : (allV m.lost && allV m.hv) = false) : chk m = 3 := by unfold chk; rw [h1, h2, if_neg (by decide), if_neg (by decide), if_pos h3]
theorem chk8 {m : Ms} (h1 : isK m.kind = true) (h2 : form m = true) (h3 : (allV m.lost && allV m.hv) = true) (h4 : (rise m.lost && rise m.hv && !meet m.lost m.hv) = false) : chk m = 8 := by unfold chk; rw [h1, h2, h3, if_neg (by decide), if_neg (by decide), if_neg (by decide), if_pos h4]
theorem chk2 {m : Ms} (h1 : isK m.kind = true) (h2 : form m = true) (h3 : (allV m.lost && allV m.hv) = true) (h4 : (rise m.lost && rise m.hv && !meet m.lost m.hv) = true) (h5 : inR m = false) : chk m = 2 := by unfold chk; rw [h1, h2, h3, h4, if_neg (by decide), if_neg (by decide), if_neg (by decide), if_neg (by decide), if_pos h5]
theorem chk44 {m : Ms} (h1 : isK m.kind = true) (h2 : form m = true) (h3 : (allV m.lost && allV m.hv) = true) (h4 : (rise m.lost && rise m.hv && !meet m.lost m.hv) = true) (h5 : inR m = true) (h6 : riseI m.rt.marks = false) : chk m = 4 := by unfold chk; rw [h1, h2, h3, h4, h5, if_neg (by decide), if_neg (by decide), if_neg (by decide), if_neg (by decide), if_neg (by decide), if_pos h6]
theorem body_big {m : Ms} (h : CK m) (h1 : m.lost.length ≤ 20000) (h2 : m.hv.length ≤ 20000) : (body m).length ≤ 300000 := by
  have e1 := pfxsB_len (ps := m.lost) (fun p hp => by have := allV_len h.vl p hp; omega)
  have e2 := pfxsB_len (ps := m.hv) (fun p hp => by have := allV_len h.vh p hp; omega)
  unfold body
  split
  · simp [big_len]
  · rename_i k1
    split
    · rename_i k2
      have hr := h.r
      unfold inR at hr
      rw [if_neg k1, if_pos k2] at hr
      have := attrs_len (m := m) (rr_of hr)
      unfold updB piece
      simp only [List.length_append, big_len]
      omega
    · split
      · simp [big_len]
      · simp
theorem encB_ok {m : Ms} (h : encE m = 0) : encB m = frame m.kind.toNat (body m) := by unfold encB; rw [if_pos h]
theorem encB_no {m : Ms} (h : ¬ encE m = 0) : encB m = [] := by unfold encB; rw [if_neg h]
set_option maxRecDepth 100000 in
set_option maxHeartbeats 64000000 in
theorem rencode_any (m : Ms) (s : Sl) (w : World) (hok : MOk w m s) (hsm : m.lost.length ≤ 20000 ∧ m.hv.length ≤ 20000) (bs : List Nat) (er : Int) (hb : encB m = bs) (he : encE m = er) :
    Calls Try.prog 28 #[msV m s] w (EncPost w bs er) := by
  have HOK : Hid (MOk w m s) := hok
  have HF : Hid (∀ W t, chk m = t → ¬ t = 0 → Below w.heap.size w W → EncPost w bs er (.returned (.tuple #[.slice none 0 0, .int .i64 t])) W) := fun W t h h0 hW => by
    obtain ⟨h1, h2⟩ := enc_err h h0
    rw [← hb, ← he, h1, h2]
    exact ⟨_, rfl, OwnL.nil _ _ _, hW⟩
  have HL6 : Hid (∀ W, CK m → 1024 < 9 + (body m).length → Below w.heap.size w W → EncPost w bs er (.returned (.tuple #[.slice none 0 0, .int .i64 6])) W) := fun W h h6 hW => by
    have h1 := enc_len2 h
    rw [if_pos h6] at h1
    rw [← hb, ← he, encB_no (by rw [h1]; decide), h1]
    exact ⟨_, rfl, OwnL.nil _ _ _, hW⟩
  have HL0 : Hid (∀ W v, CK m → ¬ 1024 < 9 + (body m).length → OwnL E8 w.heap.size W v (frame m.kind.toNat (body m)) → Below w.heap.size w W → EncPost w bs er (.returned (.tuple #[v, .int .i64 0])) W) := fun W v h h6 ho hW => by
    have h1 := enc_len2 h
    rw [if_neg h6] at h1
    rw [← hb, ← he, encB_ok h1, h1]
    exact ⟨_, rfl, ho, hW⟩
  clear hb he
  obtain ⟨hs1, hs2⟩ := hsm
  obtain ⟨n1, hn1⟩ : ∃ n, m.lost.length = n := ⟨_, rfl⟩
  have HN1 : Hid (m.lost.length = n1) := hn1
  obtain ⟨n2, hn2⟩ : ∃ n, m.hv.length = n := ⟨_, rfl⟩
  have HN2 : Hid (m.hv.length = n2) := hn2
  obtain ⟨q1, hq1⟩ : ∃ n, m.rt.path.length = n := ⟨_, rfl⟩
  have HQ1 : Hid (m.rt.path.length = q1) := hq1
  obtain ⟨q2, hq2⟩ : ∃ n, m.rt.marks.length = n := ⟨_, rfl⟩
  have HQ2 : Hid (m.rt.marks.length = q2) := hq2
  obtain ⟨q3, hq3⟩ : ∃ n, m.rt.clus.length = n := ⟨_, rfl⟩
  have HQ3 : Hid (m.rt.clus.length = q3) := hq3
  obtain ⟨la, hla⟩ : ∃ a, s.l = a := ⟨_, rfl⟩
  have HLA : Hid (s.l = la) := hla
  obtain ⟨ha, hha⟩ : ∃ a, s.h = a := ⟨_, rfl⟩
  have HHA : Hid (s.h = ha) := hha
  obtain ⟨ma, hma⟩ : ∃ a, s.m = a := ⟨_, rfl⟩
  have HMA : Hid (s.m = ma) := hma
  have HV : Hid (msV m s = .agg #[.int .i64 m.kind, .int .i64 m.dom, .int .i64 m.id, .int .i64 m.hold, .int .i64 m.code, .slice la n1 s.lc, .slice ha n2 s.hc, .int .u32 m.rt.pa, .int .i64 m.rt.pn, .slice s.p q1 s.pc, .int .i64 m.rt.org, .int .i64 m.rt.pref, .int .i64 m.rt.med, .int .u32 m.rt.next, .slice ma q2 s.mc, .slice s.c q3 s.cc, .int .i64 m.rt.auth]) := by unfold msV; rw [hn1, hn2, hq1, hq2, hq3, hla, hha, hma]; rfl
  rw [hn1] at hs1
  rw [hn2] at hs2
  have hq2s := hok.r.m.small
  rw [hq2] at hq2s
  rw [HV.out]
  clear hn1 hn2 hq1 hq2 hq3 hok hla hha hma
  go_enter Try.func28, Try.ntmps28
  go_upto_region 1 with fail
  obtain ⟨w0, hw0⟩ : ∃ w0, w.alloc (Obj.cells #[.int .i64 m.kind, .int .i64 m.dom, .int .i64 m.id, .int .i64 m.hold, .int .i64 m.code, .slice la n1 s.lc, .slice ha n2 s.hc, .int .u32 m.rt.pa, .int .i64 m.rt.pn, .slice s.p q1 s.pc, .int .i64 m.rt.org, .int .i64 m.rt.pref, .int .i64 m.rt.med, .int .u32 m.rt.next, .slice ma q2 s.mc, .slice s.c q3 s.cc, .int .i64 m.rt.auth] 31) = w0 := ⟨_, rfl⟩
  obtain ⟨hbx, hb0, hs0⟩ := mbox_new (m := m) (s := s) (w := w) (W := w0) (by rw [HN1.out, HN2.out, HQ1.out, HQ2.out, HQ3.out, HLA.out, HHA.out, HMA.out]; exact hw0)
  obtain ⟨b, hb⟩ : ∃ b, w.heap.size = b := ⟨_, rfl⟩
  rw [hw0]
  rw [hb] at hbx ⊢
  have HBZ : Hid (w.heap.size = b) := hb
  have HX0 : Hid (MBox b m s w0) := hbx
  have HB0 : Hid (Below w.heap.size w w0) := hb0
  have HO0 : Hid (MOk w0 m s) := HOK.out.bel hb0
  have hbs : b < w0.heap.size := by omega
  have HBX : Hid (∀ W, Below w0.heap.size w0 W → MBox b m s W) := fun W h => HX0.out.blk (h.block b hbs)
  have HBW : Hid (∀ W, Below w0.heap.size w0 W → Below w.heap.size w W) := fun W h => HB0.out.trans (h.mono HB0.out.size)
  have HMW : Hid (∀ W, Below w0.heap.size w0 W → MOk W m s) := fun W h => HO0.out.bel h
  have hbn : b ≤ w0.heap.size := by omega
  have HML : Hid (∀ W, Below w0.heap.size w0 W → Lst E2 W la m.lost ∧ Lst E2 W ha m.hv ∧ Lst EI W ma m.rt.marks) := fun W h => ⟨by rw [← HLA.out]; exact (HMW.out W h).l, by rw [← HHA.out]; exact (HMW.out W h).h, by rw [← HMA.out]; exact (HMW.out W h).r.m⟩
  clear hw0 hbx hb0 HOK hb hs0
  obtain ⟨c0, c1, c2, c3, c4, c5, c6, c7, c8, c9, c10, c11, c12, c13, c14, c15, c16⟩ := HBX.out w0 (Below.refl _ _)
  rw [HN1.out, HLA.out] at c5
  rw [HN2.out, HHA.out] at c6
  rw [HQ1.out] at c9
  rw [HQ2.out, HMA.out] at c14
  rw [HQ3.out] at c15
  by_cases kk : 1 ≤ m.kind ∧ m.kind ≤ 4
  rotate_left
  · have HKK : Hid (isK m.kind = false) := by unfold isK; exact wi_not.2 kk
    have HE13 : Hid (∀ W, Below w0.heap.size w0 W → EncPost w bs er (.returned (.tuple #[.slice none 0 0, .int .i64 13])) W) := fun W h => HF.out W 13 (chk13 HKK.out) (by decide) (HBW.out W h)
    by_cases k1 : m.kind < 1
    · go_wp2_with fail
      refine bodyPost_ret (v := .tuple #[.slice none 0 0, .int .i64 13]) (by simp [results, Try.results28, go_sem]) rfl ?_
      exact HE13.out _ (Below.refl _ _)
    · have k4 : 4 < m.kind := by omega
      go_wp2_with fail
      refine bodyPost_ret (v := .tuple #[.slice none 0 0, .int .i64 13]) (by simp [results, Try.results28, go_sem]) rfl ?_
      exact HE13.out _ (Below.refl _ _)
  · have HK : Hid (isK m.kind = true) := isK_iff.2 kk
    have HKR : Hid (1 ≤ m.kind ∧ m.kind ≤ 4) := kk
    obtain ⟨ka, kb⟩ := kk
    have ka' : ¬ m.kind < 1 := by omega
    have kb' : ¬ 4 < m.kind := by omega
    obtain ⟨b2, h2⟩ : ∃ t, form m = t := ⟨_, rfl⟩
    have H2 : Hid (form m = b2) := h2
    have HFA := rform_any m s b2 (by rw [rform_eq HKR.out]; exact h2) w0
    rw [HV.out] at HFA
    clear h2
    go_wp2_with fail
    refine HFA.mono ?_
    rintro e w1 ⟨rfl, hb1⟩
    have HB1 : Hid (Below w0.heap.size w0 w1) := hb1
    clear hb1 HFA ka kb ka' kb'
    clear c0 c1 c2 c3 c4 c5 c6 c7 c8 c9 c10 c11 c12 c13 c14 c15 c16
    obtain ⟨c0, c1, c2, c3, c4, c5, c6, c7, c8, c9, c10, c11, c12, c13, c14, c15, c16⟩ := HBX.out w1 HB1.out
    rw [HN1.out, HLA.out] at c5
    rw [HN2.out, HHA.out] at c6
    rw [HQ1.out] at c9
    rw [HQ2.out, HMA.out] at c14
    rw [HQ3.out] at c15
    cases b2 with
    | false =>
      go_wp2_with fail
      refine bodyPost_ret (v := .tuple #[.slice none 0 0, .int .i64 4]) (by simp [results, Try.results28, go_sem]) rfl ?_
      exact HF.out _ 4 (chk4 HK.out H2.out) (by decide) (HBW.out _ HB1.out)
    | true =>
      obtain ⟨w2, hw2⟩ : ∃ W, w1.alloc (Obj.cells #[.slice la n1 s.lc, .slice ha n2 s.hc] 23) = W := ⟨_, rfl⟩
      obtain ⟨sx, hsx⟩ : ∃ k, w1.heap.size = k := ⟨_, rfl⟩
      have hb2 : Below w1.heap.size w1 w2 := by rw [← hw2]; exact (Below.refl _ w1).alloc (Nat.le_refl _) _
      have x0 : w2.cell? ⟨sx, 0, none⟩ = some (.slice la n1 s.lc) := by rw [← hw2, ← hsx]; simp
      have x1 : w2.cell? ⟨sx, 1, none⟩ = some (.slice ha n2 s.hc) := by rw [← hw2, ← hsx]; simp
      have hsx2 : sx < w2.heap.size := by rw [← hw2, ← hsx]; simp
      have HB2 : Hid (Below w0.heap.size w0 w2) := HB1.out.trans (hb2.mono HB1.out.size)
      have HXX : Hid (∀ W, Below w2.heap.size w2 W → W.cell? ⟨sx, 0, none⟩ = some (.slice la n1 s.lc) ∧ W.cell? ⟨sx, 1, none⟩ = some (.slice ha n2 s.hc)) := fun W h => ⟨(World.cell?_of_block (w := w2) (h.block sx hsx2)).trans x0, (World.cell?_of_block (w := w2) (h.block sx hsx2)).trans x1⟩
      have HW2 : Hid (∀ W, Below w2.heap.size w2 W → Below w0.heap.size w0 W) := fun W h => HB2.out.trans (h.mono HB2.out.size)
      clear hb2 x0 x1 hsx2
      go_wp2_with fail
      clear hw2 hsx
      clear c0 c1 c2 c3 c4 c5 c6 c7 c8 c9 c10 c11 c12 c13 c14 c15 c16
      go_loopw [33] (fun iv wr => ∃ i : Nat, i ≤ 2 ∧ iv = .int .i64 (i : Int) ∧ (1 ≤ i → allV m.lost = true) ∧ (2 ≤ i → allV m.hv = true) ∧ Below w2.heap.size w2 wr) (fun i _ => 2 - (intOf i).toNat)
      case atStart => exact ⟨0, by omega, rfl, fun h => by omega, fun h => by omega, Below.refl _ _⟩
      case round =>
        obtain ⟨i, hi, rfl, hv1, hv2, hbr⟩ := hrel
        have HR : Hid (Below w2.heap.size w2 wr) := hbr
        have HA1 : Hid (1 ≤ i → allV m.lost = true) := hv1
        have HA2 : Hid (2 ≤ i → allV m.hv = true) := hv2
        obtain ⟨x0, x1⟩ := HXX.out wr hbr
        clear hv1 hv2 hbr
        by_cases i2 : i < 2
        · obtain ⟨A, N, C, ps, hcell, hlen, hlst, hinA, hN2, hbad, hnext⟩ : ∃ (A : Option Addr) (N C : Nat) (ps : List (Int × Int)), wr.cell? ⟨sx, i, none⟩ = some (.slice A N C) ∧ ps.length = N ∧ (∀ W, Below w0.heap.size w0 W → Lst E2 W A ps) ∧ (∀ p ∈ ps, InA p) ∧ N ≤ 20000 ∧ (allV ps = false → (allV m.lost && allV m.hv) = false) ∧ (allV ps = true → (1 ≤ i + 1 → allV m.lost = true) ∧ (2 ≤ i + 1 → allV m.hv = true)) := by
            by_cases i0 : i = 0
            · subst i0
              exact ⟨la, n1, s.lc, m.lost, x0, HN1.out, fun W h => (HML.out W h).1, HO0.out.il, hs1, fun h => by rw [h]; rfl, fun h => ⟨fun _ => h, fun h5 => by omega⟩⟩
            · obtain rfl : i = 1 := by omega
              exact ⟨ha, n2, s.hc, m.hv, x1, HN2.out, fun W h => (HML.out W h).2.1, HO0.out.ih, hs2, fun h => by rw [h]; simp, fun h => ⟨fun _ => HA1.out (by omega), fun _ => h⟩⟩
          have HCN : Hid (ps.length = N) := hlen
          have HLS : Hid (∀ W, Below w0.heap.size w0 W → Lst E2 W A ps) := hlst
          have HIA : Hid (∀ p ∈ ps, InA p) := hinA
          have HBAD : Hid (allV ps = false → (allV m.lost && allV m.hv) = false) := hbad
          have HNEX : Hid (allV ps = true → (1 ≤ i + 1 → allV m.lost = true) ∧ (2 ≤ i + 1 → allV m.hv = true)) := hnext
          have hii2 : (i : Int) < 2 := by omega
          have ii2 : (0 : Int) ≤ (i : Int) := by omega
          clear hlen hlst hinA hbad hnext x0 x1
          go_wp2_with fail
          go_loopw [39] (fun jv wr2 => ∃ j : Nat, j ≤ N ∧ jv = .int .i64 (j : Int) ∧ (∀ k (hk : k < ps.length), k < j → vld ps[k].1 ps[k].2 = true) ∧ Below w2.heap.size w2 wr2) (fun i _ => N - (intOf i).toNat)
          case atStart => exact ⟨0, by omega, rfl, fun k _ h => by omega, HR.out⟩
          case round =>
            obtain ⟨j, hj, rfl, hlow, hb⟩ := hrel
            have HLOW : Hid (∀ k (hk : k < ps.length), k < j → vld ps[k].1 ps[k].2 = true) := hlow
            have HRB : Hid (Below w2.heap.size w2 wr) := hb
            clear hlow hb
            by_cases hlt : j < N
            · have hil : j < ps.length := by rw [HCN.out]; exact hlt
              obtain ⟨bq, oq, haq, hbl, c0, c1⟩ := lst2 (HLS.out wr (HW2.out wr HRB.out)) j hil
              have hin := HIA.out _ (List.getElem_mem hil)
              obtain ⟨hb0, hhb⟩ : ∃ t, vld ps[j].1 ps[j].2 = t := ⟨_, rfl⟩
              have HH : Hid (vld ps[j].1 ps[j].2 = hb0) := hhb
              obtain ⟨⟨pa, pn⟩, hpp⟩ : ∃ p, ps[j] = p := ⟨_, rfl⟩
              rw [hpp] at c0 c1 hin hhb
              dsimp only at c0 c1 hhb
              obtain ⟨p0, p1⟩ := hin
              dsimp only at p0 p1
              have hii : (j : Int) < N := by omega
              have ii0 : (0 : Int) ≤ j := by omega
              have HBA : Hid (∀ o, Below w2.heap.size w2 (wr.alloc o)) := fun o => HRB.out.alloc HRB.out.size o
              subst haq
              clear hpp
              cases hb0 with
              | true =>
                have HNX : Hid (∀ k (hk : k < ps.length), k < j + 1 → vld ps[k].1 ps[k].2 = true) := fun k hk h1 => by
                  by_cases e : k = j
                  · subst e; exact HH.out
                  · exact HLOW.out k hk (by omega)
                go_wp2_with fail
                refine (rvalid_yes pa pn hhb p0 p1 _).mono ?_
                rintro e w5 ⟨rfl, hb5⟩
                have HB5 : Hid (Below w2.heap.size w2 w5) := (HBA.out _).trans (hb5.mono (HBA.out _).size)
                clear hb5
                go_wp2_with fail
                exact ⟨⟨j + 1, by omega, by simp, HNX.out, HB5.out⟩, by simp [intOf]; omega⟩
              | false =>
                have HE : Hid ((allV m.lost && allV m.hv) = false) := HBAD.out (all_no (f := fun p : Int × Int => vld p.1 p.2) j hil HH.out)
                go_wp2_with fail
                refine (rvalid_no pa pn hhb p0 p1 _).mono ?_
                rintro e w5 ⟨rfl, hb5⟩
                have HB5 : Hid (Below w2.heap.size w2 w5) := (HBA.out _).trans (hb5.mono (HBA.out _).size)
                clear hb5
                go_wp2_with fail
                refine bodyPost_ret (v := .tuple #[.slice none 0 0, .int .i64 3]) (by simp [results, Try.results28, go_sem]) rfl ?_
                exact HF.out _ 3 (chk3 HK.out H2.out HE.out) (by decide) (HBW.out _ (HW2.out _ HB5.out))
            · obtain rfl : j = N := by omega
              have HALL : Hid (allV ps = true) := all_iff.2 (fun k hk => HLOW.out k hk (by rw [← HCN.out]; exact hk))
              have HNE2 : Hid ((1 ≤ i + 1 → allV m.lost = true) ∧ (2 ≤ i + 1 → allV m.hv = true)) := HNEX.out HALL.out
              have hjj : ¬ (j : Int) < (j : Int) := by omega
              go_wp2_with fail
              exact ⟨⟨i + 1, by omega, by simp, HNE2.out.1, HNE2.out.2, HRB.out⟩, by simp [intOf]; omega⟩
        · have HI2 : Hid (i = 2) := by show _ = _; omega
          have HVL : Hid (allV m.lost = true) := HA1.out (by omega)
          have HVH : Hid (allV m.hv = true) := HA2.out (by omega)
          have HVB : Hid ((allV m.lost && allV m.hv) = true) := by show _ = _; rw [HVL.out, HVH.out]; rfl
          have HR0 : Hid (Below w0.heap.size w0 wr) := HW2.out wr HR.out
          obtain ⟨w3, hw3⟩ : ∃ W, wr = W := ⟨_, rfl⟩
          rw [hw3] at HR0 ⊢
          have hii : ¬ (i : Int) < 2 := by omega
          clear HA1 HA2 x0 x1 HXX HW2 HR hw3
          obtain ⟨b5, h5⟩ : ∃ t, rise m.lost = t := ⟨_, rfl⟩
          obtain ⟨b6, h6⟩ : ∃ t, rise m.hv = t := ⟨_, rfl⟩
          have H5 : Hid (rise m.lost = b5) := h5
          have H6 : Hid (rise m.hv = b6) := h6
          clear h5 h6
          obtain ⟨c0, c1, c2, c3, c4, c5, c6, c7, c8, c9, c10, c11, c12, c13, c14, c15, c16⟩ := HBX.out w3 HR0.out
          rw [HN1.out, HLA.out] at c5
          rw [HN2.out, HHA.out] at c6
          rw [HQ1.out] at c9
          rw [HQ2.out, HMA.out] at c14
          rw [HQ3.out] at c15
          go_wp2_with fail
          refine (rrise_any la s.lc m.lost n1 HN1.out w3 (HML.out w3 HR0.out).1 (HMW.out w3 HR0.out).il b5 H5.out).mono ?_
          rintro e w4 ⟨rfl, hb4⟩
          have HB4 : Hid (Below w0.heap.size w0 w4) := HR0.out.trans (hb4.mono HR0.out.size)
          clear hb4
          clear c0 c1 c2 c3 c4 c5 c6 c7 c8 c9 c10 c11 c12 c13 c14 c15 c16
          obtain ⟨c0, c1, c2, c3, c4, c5, c6, c7, c8, c9, c10, c11, c12, c13, c14, c15, c16⟩ := HBX.out w4 HB4.out
          rw [HN1.out, HLA.out] at c5
          rw [HN2.out, HHA.out] at c6
          rw [HQ1.out] at c9
          rw [HQ2.out, HMA.out] at c14
          rw [HQ3.out] at c15
          cases b5 with
          | false =>
            go_wp2_with fail
            refine bodyPost_ret (v := .tuple #[.slice none 0 0, .int .i64 8]) (by simp [results, Try.results28, go_sem]) rfl ?_
            exact HF.out _ 8 (chk8 HK.out H2.out HVB.out (by rw [H5.out]; rfl)) (by decide) (HBW.out _ HB4.out)
          | true =>
            go_wp2_with fail
            refine (rrise_any ha s.hc m.hv n2 HN2.out w4 (HML.out w4 HB4.out).2.1 (HMW.out w4 HB4.out).ih b6 H6.out).mono ?_
            rintro e w5 ⟨rfl, hb5⟩
            have HB5 : Hid (Below w0.heap.size w0 w5) := HB4.out.trans (hb5.mono HB4.out.size)
            clear hb5
            clear c0 c1 c2 c3 c4 c5 c6 c7 c8 c9 c10 c11 c12 c13 c14 c15 c16
            obtain ⟨c0, c1, c2, c3, c4, c5, c6, c7, c8, c9, c10, c11, c12, c13, c14, c15, c16⟩ := HBX.out w5 HB5.out
            rw [HN1.out, HLA.out] at c5
            rw [HN2.out, HHA.out] at c6
            rw [HQ1.out] at c9
            rw [HQ2.out, HMA.out] at c14
            rw [HQ3.out] at c15
            cases b6 with
            | false =>
              go_wp2_with fail
              refine bodyPost_ret (v := .tuple #[.slice none 0 0, .int .i64 8]) (by simp [results, Try.results28, go_sem]) rfl ?_
              exact HF.out _ 8 (chk8 HK.out H2.out HVB.out (by rw [H5.out, H6.out]; rfl)) (by decide) (HBW.out _ HB5.out)
            | true =>
              go_wp2_with fail
              go_loopw [61] (fun iv wr => ∃ i : Nat, i ≤ n1 ∧ iv = .int .i64 (i : Int) ∧ (∀ k (hk : k < m.lost.length), k < i → ¬ m.lost[k] ∈ m.hv) ∧ Below w0.heap.size w0 wr) (fun i _ => n1 - (intOf i).toNat)
              case atStart => exact ⟨0, by omega, rfl, fun k _ h => by omega, HB5.out⟩
              case round =>
                clear c0 c1 c2 c3 c4 c5 c6 c7 c8 c9 c10 c11 c12 c13 c14 c15 c16
                obtain ⟨i, hi, rfl, hlow, hb⟩ := hrel
                have HLOW : Hid (∀ k (hk : k < m.lost.length), k < i → ¬ m.lost[k] ∈ m.hv) := hlow
                have HRB : Hid (Below w0.heap.size w0 wr) := hb
                clear hlow hb
                obtain ⟨c0, c1, c2, c3, c4, c5, c6, c7, c8, c9, c10, c11, c12, c13, c14, c15, c16⟩ := HBX.out wr HRB.out
                rw [HN1.out, HLA.out] at c5
                rw [HN2.out, HHA.out] at c6
                rw [HQ1.out] at c9
                rw [HQ2.out, HMA.out] at c14
                rw [HQ3.out] at c15
                by_cases hlt : i < n1
                · have hil : i < m.lost.length := by rw [HN1.out]; exact hlt
                  obtain ⟨bq, oq, haq, hbl, t0, t1⟩ := lst2 (HML.out wr HRB.out).1 i hil
                  obtain ⟨⟨pa, pn⟩, hpp⟩ : ∃ p, m.lost[i] = p := ⟨_, rfl⟩
                  rw [hpp] at t0 t1
                  dsimp only at t0 t1
                  have HPP : Hid (m.lost[i] = (pa, pn)) := hpp
                  have hii : (i : Int) < n1 := by omega
                  have ii0 : (0 : Int) ≤ i := by omega
                  subst haq
                  clear hpp
                  obtain ⟨wp, hwp⟩ : ∃ W, wr.alloc (Obj.cells #[.int .u32 pa, .int .i64 pn] 26) = W := ⟨_, rfl⟩
                  obtain ⟨sp, hsp⟩ : ∃ k, wr.heap.size = k := ⟨_, rfl⟩
                  have hbp : Below wr.heap.size wr wp := by rw [← hwp]; exact (Below.refl _ wr).alloc (Nat.le_refl _) _
                  have e0 : wp.cell? ⟨sp, 0, none⟩ = some (.int .u32 pa) := by rw [← hwp, ← hsp]; simp
                  have e1 : wp.cell? ⟨sp, 1, none⟩ = some (.int .i64 pn) := by rw [← hwp, ← hsp]; simp
                  have hspp : sp < wp.heap.size := by rw [← hwp, ← hsp]; simp
                  have HBP : Hid (Below w0.heap.size w0 wp) := HRB.out.trans (hbp.mono HRB.out.size)
                  have HEP : Hid (∀ W, Below wp.heap.size wp W → W.cell? ⟨sp, 0, none⟩ = some (.int .u32 pa) ∧ W.cell? ⟨sp, 1, none⟩ = some (.int .i64 pn) ∧ sp < W.heap.size) := fun W h => ⟨(World.cell?_of_block (w := wp) (h.block sp hspp)).trans e0, (World.cell?_of_block (w := wp) (h.block sp hspp)).trans e1, Nat.lt_of_lt_of_le hspp h.size⟩
                  have HWP : Hid (∀ W, Below wp.heap.size wp W → Below w0.heap.size w0 W) := fun W h => HBP.out.trans (h.mono HBP.out.size)
                  clear hbp e0 e1 hspp
                  go_upto_region 20 with fail
                  try rw [hwp, hsp]
                  clear hwp hsp t0 t1
                  clear c0 c1 c2 c3 c4 c5 c6 c7 c8 c9 c10 c11 c12 c13 c14 c15 c16
                  obtain ⟨c0, c1, c2, c3, c4, c5, c6, c7, c8, c9, c10, c11, c12, c13, c14, c15, c16⟩ := HBX.out wp HBP.out
                  rw [HN1.out, HLA.out] at c5
                  rw [HN2.out, HHA.out] at c6
                  rw [HQ1.out] at c9
                  rw [HQ2.out, HMA.out] at c14
                  rw [HQ3.out] at c15
                  go_wp2_with fail
                  go_loopw [68] (fun jv wr2 => ∃ j : Nat, j ≤ n2 ∧ jv = .int .i64 (j : Int) ∧ (∀ k (hk : k < m.hv.length), k < j → ¬ m.hv[k] = (pa, pn)) ∧ Below wp.heap.size wp wr2) (fun i _ => n2 - (intOf i).toNat)
                  case atStart => exact ⟨0, by omega, rfl, fun k _ h => by omega, Below.refl _ _⟩
                  case round =>
                    clear c0 c1 c2 c3 c4 c5 c6 c7 c8 c9 c10 c11 c12 c13 c14 c15 c16
                    obtain ⟨j, hj, rfl, hlow2, hb2⟩ := hrel
                    have HLO2 : Hid (∀ k (hk : k < m.hv.length), k < j → ¬ m.hv[k] = (pa, pn)) := hlow2
                    have HRP : Hid (Below wp.heap.size wp wr) := hb2
                    obtain ⟨e0, e1, hspl⟩ := HEP.out wr hb2
                    clear hlow2 hb2
                    by_cases hlt2 : j < n2
                    · have hjl : j < m.hv.length := by rw [HN2.out]; exact hlt2
                      obtain ⟨bq2, oq2, haq2, hbl2, t0, t1⟩ := lst2 (HML.out wr (HWP.out wr HRP.out)).2.1 j hjl
                      obtain ⟨⟨qa, qn⟩, hqq⟩ : ∃ p, m.hv[j] = p := ⟨_, rfl⟩
                      rw [hqq] at t0 t1
                      dsimp only at t0 t1
                      have HQQ : Hid (m.hv[j] = (qa, qn)) := hqq
                      have hjj : (j : Int) < n2 := by omega
                      have jj0 : (0 : Int) ≤ j := by omega
                      subst haq2
                      have HBA : Hid (∀ o, Below wp.heap.size wp (wr.alloc o)) := fun o => HRP.out.alloc HRP.out.size o
                      clear hqq
                      by_cases heq : pa = qa ∧ pn = qn
                      · obtain ⟨rfl, rfl⟩ := heq
                        have HMT : Hid ((rise m.lost && rise m.hv && !meet m.lost m.hv) = false) := by
                          show _ = _
                          have : meet m.lost m.hv = true := meet_iff.2 ⟨(pa, pn), by rw [← HPP.out]; exact List.getElem_mem _, by rw [← HQQ.out]; exact List.getElem_mem _⟩
                          rw [this]
                          simp
                        go_wp2_with fail
                        refine bodyPost_ret (v := .tuple #[.slice none 0 0, .int .i64 8]) (by simp [results, Try.results28, go_sem]) rfl ?_
                        exact HF.out _ 8 (chk8 HK.out H2.out HVB.out HMT.out) (by decide) (HBW.out _ (HWP.out _ (HBA.out _)))
                      · have HNX : Hid (∀ k (hk : k < m.hv.length), k < j + 1 → ¬ m.hv[k] = (pa, pn)) := fun k hk h1 => by
                          by_cases e : k = j
                          · subst e
                            rw [HQQ.out]
                            intro e2
                            cases e2
                            exact heq ⟨rfl, rfl⟩
                          · exact HLO2.out k hk (by omega)
                        have HNE : Hid (¬ (pa = qa ∧ pn = qn)) := heq
                        by_cases hq1 : pa = qa
                        · have hq2 : ¬ pn = qn := fun e => HNE.out ⟨hq1, e⟩
                          subst hq1
                          have hq2b : (pn == qn) = false := by simpa using hq2
                          go_wp2_with fail
                          exact ⟨⟨j + 1, by omega, by simp, HNX.out, HBA.out _⟩, by simp [intOf]; omega⟩
                        · have hq1b : (pa == qa) = false := by simpa using hq1
                          go_wp2_with fail
                          exact ⟨⟨j + 1, by omega, by simp, HNX.out, HBA.out _⟩, by simp [intOf]; omega⟩
                    · obtain rfl : n2 = j := by omega
                      have HNX : Hid (∀ k (hk : k < m.lost.length), k < i + 1 → ¬ m.lost[k] ∈ m.hv) := fun k hk h1 => by
                        by_cases e : k = i
                        · subst e
                          rw [HPP.out]
                          intro e2
                          obtain ⟨q, hq, e3⟩ := List.getElem_of_mem e2
                          exact HLO2.out q hq (by have := HN2.out; omega) e3
                        · exact HLOW.out k hk (by omega)
                      have HB9 : Hid (Below w0.heap.size w0 wr) := HWP.out wr HRP.out
                      go_wp2_with fail
                      exact ⟨⟨i + 1, by omega, by simp, HNX.out, HB9.out⟩, by simp [intOf]; omega⟩
                · obtain rfl : n1 = i := by omega
                  as_aux_lemma =>
                    have HMT : Hid (meet m.lost m.hv = false) := by
                      show _ = _
                      cases e : meet m.lost m.hv with
                      | false => rfl
                      | true =>
                        obtain ⟨p, hp, hq⟩ := meet_iff.1 e
                        obtain ⟨k, hk, e2⟩ := List.getElem_of_mem hp
                        exact absurd (by rw [e2]; exact hq) (HLOW.out k hk (by rw [← HN1.out]; exact hk))
                    have H4 : Hid ((rise m.lost && rise m.hv && !meet m.lost m.hv) = true) := by show _ = _; rw [H5.out, H6.out, HMT.out]; rfl
                    obtain ⟨b8, h8⟩ : ∃ t, inR m = t := ⟨_, rfl⟩
                    have H8 : Hid (inR m = b8) := h8
                    have HRA := rrange_any2 m s wr (HMW.out wr HRB.out) b8 (by rw [range_eq HKR.out H2.out]; exact h8)
                    rw [HV.out] at HRA
                    clear h8 HLOW
                    go_wp2_with fail
                    refine HRA.mono ?_
                    rintro e w6 ⟨rfl, hb6⟩
                    have HB6 : Hid (Below w0.heap.size w0 w6) := HRB.out.trans (hb6.mono HRB.out.size)
                    clear hb6 HRA
                    clear c0 c1 c2 c3 c4 c5 c6 c7 c8 c9 c10 c11 c12 c13 c14 c15 c16
                    obtain ⟨c0, c1, c2, c3, c4, c5, c6, c7, c8, c9, c10, c11, c12, c13, c14, c15, c16⟩ := HBX.out w6 HB6.out
                    rw [HN1.out, HLA.out] at c5
                    rw [HN2.out, HHA.out] at c6
                    rw [HQ1.out] at c9
                    rw [HQ2.out, HMA.out] at c14
                    rw [HQ3.out] at c15
                    cases b8 with
                    | false =>
                      go_wp2_with fail
                      refine bodyPost_ret (v := .tuple #[.slice none 0 0, .int .i64 2]) (by simp [results, Try.results28, go_sem]) rfl ?_
                      exact HF.out _ 2 (chk2 HK.out H2.out HVB.out H4.out H8.out) (by decide) (HBW.out _ HB6.out)
                    | true =>
                      go_wp2_with fail
                      go_loopw [12] (fun iv wr => ∃ i : Nat, 1 ≤ i ∧ i ≤ q2 + 1 ∧ iv = .int .i64 (i : Int) ∧ (∀ j (hj : j + 1 < m.rt.marks.length), j + 1 < i → m.rt.marks[j] < m.rt.marks[j + 1]) ∧ Below w0.heap.size w0 wr) (fun i _ => q2 + 1 - (intOf i).toNat)
                      case atStart => exact ⟨1, by omega, by omega, rfl, fun j _ h => by omega, HB6.out⟩
                      case round =>
                        clear c0 c1 c2 c3 c4 c5 c6 c7 c8 c9 c10 c11 c12 c13 c14 c15 c16
                        obtain ⟨i, hi1, hi, rfl, hlow, hb⟩ := hrel
                        have HLOW : Hid (∀ j (hj : j + 1 < m.rt.marks.length), j + 1 < i → m.rt.marks[j] < m.rt.marks[j + 1]) := hlow
                        have HRB2 : Hid (Below w0.heap.size w0 wr) := hb
                        clear hlow hb
                        obtain ⟨c0, c1, c2, c3, c4, c5, c6, c7, c8, c9, c10, c11, c12, c13, c14, c15, c16⟩ := HBX.out wr HRB2.out
                        rw [HN1.out, HLA.out] at c5
                        rw [HN2.out, HHA.out] at c6
                        rw [HQ1.out] at c9
                        rw [HQ2.out, HMA.out] at c14
                        rw [HQ3.out] at c15
                        by_cases hlt : i < q2
                        · obtain ⟨k, hk⟩ : ∃ k, k + 1 = i := ⟨i - 1, by omega⟩
                          have hil : i < m.rt.marks.length := by rw [HQ2.out]; exact hlt
                          have hkl : k < m.rt.marks.length := by omega
                          obtain ⟨bq, oq, haq, hbl, t0⟩ := lstI (HML.out wr HRB2.out).2.2 k hkl
                          obtain ⟨bq', oq', haq', -, t1⟩ := lstI (HML.out wr HRB2.out).2.2 i hil
                          subst haq
                          cases haq'
                          obtain ⟨pa, hpp⟩ : ∃ p, m.rt.marks[k] = p := ⟨_, rfl⟩
                          obtain ⟨qa, hqq⟩ : ∃ p, m.rt.marks[i] = p := ⟨_, rfl⟩
                          have HPP : Hid (m.rt.marks[k] = pa ∧ m.rt.marks[i] = qa) := ⟨hpp, hqq⟩
                          rw [hpp] at t0
                          rw [hqq] at t1
                          have hii : (i : Int) < q2 := by omega
                          have ii0 : (0 : Int) ≤ (i : Int) := by omega
                          have hk1 : IntKind.i64.wrap ((i : Int) - 1) = (k : Int) := by rw [IntWalk.i64_in _ (by omega)]; omega
                          have hkn : (k : Int) < q2 := by omega
                          have kk0 : (0 : Int) ≤ (k : Int) := by omega
                          have HBD : Hid (∀ q, Below w0.heap.size w0 (wr.drewN q)) := fun q => below_drewN HRB2.out q
                          have HKI : Hid (k + 1 = i) := hk
                          clear hpp hqq hk
                          by_cases hle : qa ≤ pa
                          · have HMF : Hid (riseI m.rt.marks = false) := by
                              have e2 := HKI.out
                              subst e2
                              refine chain_no (r := fun x y : Int => decide (x < y)) k hil ?_
                              show decide (_ < _) = false
                              rw [HPP.out.1, HPP.out.2]
                              simpa using hle
                            go_wp2_with fail
                            go_quiet (fail)
                            go_wp2_with fail
                            refine bodyPost_ret (v := .tuple #[.slice none 0 0, .int .i64 4]) (by simp [results, Try.results28, go_sem]) rfl ?_
                            exact HF.out _ 4 (chk44 HK.out H2.out HVB.out H4.out H8.out HMF.out) (by decide) (HBW.out _ (HBD.out _))
                          · have HNX : Hid (∀ j (hj : j + 1 < m.rt.marks.length), j + 1 < i + 1 → m.rt.marks[j] < m.rt.marks[j + 1]) := fun j hj h1 => by
                              by_cases e : j = k
                              · subst e
                                have e2 := HKI.out
                                subst e2
                                rw [HPP.out.1, HPP.out.2]
                                omega
                              · exact HLOW.out j hj (by have := HKI.out; omega)
                            go_wp2_with fail
                            go_quiet (fail)
                            go_wp2_with fail
                            exact ⟨⟨i + 1, by omega, by omega, by simp, HNX.out, HBD.out _⟩, by simp [intOf]; omega⟩
                        · have HCK : Hid (CK m) := ⟨HKR.out, H2.out, HVL.out, HVH.out, H5.out, H6.out, HMT.out, H8.out, chain_iff.2 (fun j hj => by simpa using HLOW.out j hj (by have := HQ2.out; omega))⟩
                          as_aux_lemma =>
                            have hii : ¬ (i : Int) < q2 := by omega
                            obtain ⟨y, hy⟩ : ∃ W, wr = W := ⟨_, rfl⟩
                            rw [hy] at HRB2 c0 c1 c2 c3 c4 c5 c6 c7 c8 c9 c10 c11 c12 c13 c14 c15 c16 ⊢
                            have HFIN : Hid True := trivial
                            obtain ⟨bl, hbl⟩ : ∃ l, (body m).length = l := ⟨_, rfl⟩
                            have HBL : Hid ((body m).length = bl) := hbl
                            have hbls : bl ≤ 300000 := by
                              rw [← hbl]
                              exact body_big HCK.out (by rw [HN1.out]; exact hs1) (by rw [HN2.out]; exact hs2)
                            clear hy hbl HLOW HF HVL HVH HVB H4 H5 H6 HMT
                            go_upto_region 34 with fail
                            go_cut [13] from 16 to 159 (fun v wx => v = .slice none 0 0 ∧ wx = y)
                            case first =>
                              go_wp2_with fail
                              go_meet
                              exact ⟨rfl, rfl⟩
                            case rest =>
                              obtain ⟨hu13, hwc⟩ := hcut
                              subst hu13
                              obtain rfl : y = wc := hwc.symm
                              by_cases k1 : m.kind = 1
                              · rw [k1] at c0
                                as_aux_lemma =>
                                  obtain ⟨D, hD, hD1⟩ : ∃ D : Nat, m.dom = D ∧ D < 4294967296 := by
                                    have h1 := HCK.out.r
                                    unfold inR isNm at h1
                                    rw [if_pos k1] at h1
                                    simp only [Bool.and_eq_true, wi_iff] at h1
                                    exact ⟨m.dom.toNat, by omega, by omega⟩
                                  obtain ⟨I, hI, hI1⟩ : ∃ D : Nat, m.id = D ∧ D < 4294967296 := by
                                    have h1 := HCK.out.r
                                    unfold inR isNm at h1
                                    rw [if_pos k1] at h1
                                    simp only [Bool.and_eq_true, wi_iff] at h1
                                    exact ⟨m.id.toNat, by omega, by omega⟩
                                  obtain ⟨H, hH, hH1⟩ : ∃ D : Nat, m.hold = D ∧ D < 65536 := by
                                    have h1 := HCK.out.r
                                    unfold inR isNm at h1
                                    rw [if_pos k1] at h1
                                    simp only [Bool.and_eq_true, Bool.or_eq_true, decide_eq_true_eq, wi_iff] at h1
                                    rcases h1.2 with h2 | h2
                                    · exact ⟨0, by omega, by omega⟩
                                    · exact ⟨m.hold.toNat, by omega, by omega⟩
                                  have HBD : Hid (body m = [1] ++ big 4 D ++ big 2 H ++ big 4 I) := by
                                    show _ = _
                                    unfold body
                                    rw [if_pos k1, hD, hI, hH, big1 (by decide)]
                                    simp only [Int.toNat_natCast]
                                  have HBY : Hid (∀ W, Below w0.heap.size w0 W → W.cell? ⟨b, 1, none⟩ = some (.int .i64 (D : Int)) ∧ W.cell? ⟨b, 2, none⟩ = some (.int .i64 (I : Int)) ∧ W.cell? ⟨b, 3, none⟩ = some (.int .i64 (H : Int)) ∧ W.cell? ⟨b, 0, none⟩ = some (.int .i64 1)) := fun W h => by
                                    have h1 := HBX.out W h
                                    refine ⟨?_, ?_, ?_, ?_⟩
                                    · rw [← hD]; exact h1.c1
                                    · rw [← hI]; exact h1.c2
                                    · rw [← hH]; exact h1.c3
                                    · rw [← k1]; exact h1.c0
                                  rw [hD] at c1
                                  rw [hI] at c2
                                  rw [hH] at c3
                                  clear hD hI hH k1
                                  obtain ⟨y1, hy1⟩ : ∃ W, y.alloc (Obj.cells #[.int .u8 1] 5) = W := ⟨_, rfl⟩
                                  obtain ⟨m1, m2⟩ := own_made E8 (W := y) (W' := y1) [1] 1 rfl (by decide) hy1
                                  obtain ⟨v1, hv1⟩ : ∃ v, Value.slice (some ⟨y.heap.size, 0, none⟩) 1 1 = v := ⟨_, rfl⟩
                                  have HO1 : Hid (OwnL E8 y.heap.size y1 v1 [1]) := by rw [← hv1]; exact m1
                                  have HY1 : Hid (Below y.heap.size y y1) := m2
                                  have HE1 : Hid (Below w0.heap.size w0 y1) := HRB2.out.trans (m2.mono HRB2.out.size)
                                  clear m1 m2
                                  go_upto_region 37 with fail
                                  clear c0 c1 c2 c3 c4 c5 c6 c7 c8 c9 c10 c11 c12 c13 c14 c15 c16
                                  obtain ⟨c1, c2, c3, c0⟩ := HBY.out y HRB2.out
                                  obtain ⟨d1, d2, d3, d0⟩ := HBY.out y1 HE1.out
                                  go_wp2_with fail
                                  refine (rbytes_any D 4 (by decide) (by omega) y1).mono ?_
                                  rintro e p2 ⟨vp2, rfl, hop2, hbp2⟩
                                  obtain ⟨ap2, np2, cp2, rfl, hop22, hlp2⟩ := own_slice hop2
                                  rw [big_len] at hlp2
                                  subst hlp2
                                  have HPP2 : Hid (Pc8 p2 ap2 4 cp2 (big 4 D)) := OwnL.pc8 hop22
                                  have HYP2 : Hid (Below y.heap.size y p2) := HY1.out.trans (hbp2.mono HY1.out.size)
                                  have HOP2 : Hid (OwnL E8 y.heap.size p2 v1 [1]) := HO1.out.bel hbp2
                                  have hby2 : ([1]).length + 4 ≤ 1099511627775 := by simp
                                  clear hop2 hop22 hbp2
                                  go_wp2_with (at_builtin; refine list_appL E8 rfl _ _ 22 rfl rfl y.heap.size v1 [1] (big 4 D) ap2 4 cp2 p2 hby2 rfl HOP2.out rfl HPP2.out.l HPP2.out.nil HPP2.out.len HYP2.out.size ?_)
                                  intro v2 z2 ho2 hg2 hat2
                                  have HO2 : Hid (OwnL E8 y.heap.size z2 v2 ([1] ++ big 4 D)) := by show OwnL E8 y.heap.size z2 v2 ([1] ++ big 4 D); simpa using ho2.out
                                  have HY2 : Hid (Below y.heap.size y z2) := HYP2.out.grown hg2.out HYP2.out.size (fun g e => (HOP2.out.row.lt g e).1)
                                  have HE2 : Hid (Below w0.heap.size w0 z2) := HRB2.out.trans (HY2.out.mono HRB2.out.size)
                                  clear ho2 hg2 hat2 HOP2 HPP2 HYP2 hby2
                                  clear c0 c1 c2 c3 d0 d1 d2 d3 hv1 hy1
                                  obtain ⟨c1, c2, c3, c0⟩ := HBY.out z2 HE2.out
                                  go_wp2_with fail
                                  refine (rbytes_any H 2 (by decide) (by omega) z2).mono ?_
                                  rintro e p3 ⟨vp3, rfl, hop3, hbp3⟩
                                  obtain ⟨ap3, np3, cp3, rfl, hop23, hlp3⟩ := own_slice hop3
                                  rw [big_len] at hlp3
                                  subst hlp3
                                  have HPP3 : Hid (Pc8 p3 ap3 2 cp3 (big 2 H)) := OwnL.pc8 hop23
                                  have HYP3 : Hid (Below y.heap.size y p3) := HY2.out.trans (hbp3.mono HY2.out.size)
                                  have HOP3 : Hid (OwnL E8 y.heap.size p3 v2 ([1] ++ big 4 D)) := HO2.out.bel hbp3
                                  have hby3 : (([1] ++ big 4 D)).length + 2 ≤ 1099511627775 := by simp [big_len]
                                  clear hop3 hop23 hbp3
                                  go_wp2_with (at_builtin; refine list_appL E8 rfl _ _ 22 rfl rfl y.heap.size v2 ([1] ++ big 4 D) (big 2 H) ap3 2 cp3 p3 hby3 rfl HOP3.out rfl HPP3.out.l HPP3.out.nil HPP3.out.len HYP3.out.size ?_)
                                  intro v3 z3 ho3 hg3 hat3
                                  have HO3 : Hid (OwnL E8 y.heap.size z3 v3 (([1] ++ big 4 D) ++ big 2 H)) := by show OwnL E8 y.heap.size z3 v3 (([1] ++ big 4 D) ++ big 2 H); simpa using ho3.out
                                  have HY3 : Hid (Below y.heap.size y z3) := HYP3.out.grown hg3.out HYP3.out.size (fun g e => (HOP3.out.row.lt g e).1)
                                  have HE3 : Hid (Below w0.heap.size w0 z3) := HRB2.out.trans (HY3.out.mono HRB2.out.size)
                                  clear ho3 hg3 hat3 HOP3 HPP3 HYP3 hby3
                                  clear c0 c1 c2 c3
                                  obtain ⟨c1, c2, c3, c0⟩ := HBY.out z3 HE3.out
                                  go_wp2_with fail
                                  refine (rbytes_any I 4 (by decide) (by omega) z3).mono ?_
                                  rintro e p4 ⟨vp4, rfl, hop4, hbp4⟩
                                  obtain ⟨ap4, np4, cp4, rfl, hop24, hlp4⟩ := own_slice hop4
                                  rw [big_len] at hlp4
                                  subst hlp4
                                  have HPP4 : Hid (Pc8 p4 ap4 4 cp4 (big 4 I)) := OwnL.pc8 hop24
                                  have HYP4 : Hid (Below y.heap.size y p4) := HY3.out.trans (hbp4.mono HY3.out.size)
                                  have HOP4 : Hid (OwnL E8 y.heap.size p4 v3 ([1] ++ big 4 D ++ big 2 H)) := HO3.out.bel hbp4
                                  have hby4 : (([1] ++ big 4 D ++ big 2 H)).length + 4 ≤ 1099511627775 := by simp [big_len]
                                  clear hop4 hop24 hbp4
                                  go_wp2_with (at_builtin; refine list_appL E8 rfl _ _ 22 rfl rfl y.heap.size v3 ([1] ++ big 4 D ++ big 2 H) (big 4 I) ap4 4 cp4 p4 hby4 rfl HOP4.out rfl HPP4.out.l HPP4.out.nil HPP4.out.len HYP4.out.size ?_)
                                  intro v4 z4 ho4 hg4 hat4
                                  have HO4 : Hid (OwnL E8 y.heap.size z4 v4 (([1] ++ big 4 D ++ big 2 H) ++ big 4 I)) := by show OwnL E8 y.heap.size z4 v4 (([1] ++ big 4 D ++ big 2 H) ++ big 4 I); simpa using ho4.out
                                  have HY4 : Hid (Below y.heap.size y z4) := HYP4.out.grown hg4.out HYP4.out.size (fun g e => (HOP4.out.row.lt g e).1)
                                  have HE4 : Hid (Below w0.heap.size w0 z4) := HRB2.out.trans (HY4.out.mono HRB2.out.size)
                                  clear ho4 hg4 hat4 HOP4 HPP4 HYP4 hby4
                                  clear c0 c1 c2 c3
                                  have HOF : Hid (OwnL E8 y.heap.size z4 v4 (body m)) := by rw [HBD.out]; exact HO4.out
                                  clear HO1 HO2 HO3 HO4
                                  obtain ⟨at_, nt_, ct_, hvt, hot, hlt_⟩ := own_slice HOF.out
                                  rw [HBL.out] at hlt_
                                  subst hlt_
                                  subst hvt
                                  have HPT : Hid (Pc8 z4 at_ bl ct_ (body m)) := OwnL.pc8 hot
                                  clear hot
                                  obtain ⟨c0, c1, c2, c3, c4, c5, c6, c7, c8, c9, c10, c11, c12, c13, c14, c15, c16⟩ := HBX.out z4 HE4.out
                                  rw [HN1.out, HLA.out] at c5
                                  rw [HN2.out, HHA.out] at c6
                                  rw [HQ1.out] at c9
                                  rw [HQ2.out, HMA.out] at c14
                                  rw [HQ3.out] at c15
                                  by_cases hlong : 1024 < 9 + bl
                                  · have hl2 : (1024 : Int) < (bl : Int) + 9 := by omega
                                    have HE6 : Hid (EncPost w bs er (.returned (.tuple #[.slice none 0 0, .int .i64 6])) z4) := HL6.out _ HCK.out (by rw [HBL.out]; exact hlong) (HBW.out _ HE4.out)
                                    go_wp2_with fail
                                    refine bodyPost_ret (v := .tuple #[.slice none 0 0, .int .i64 6]) (by simp [results, Try.results28, go_sem]) rfl ?_
                                    exact HE6.out
                                  · have hl2 : ¬ (1024 : Int) < (bl : Int) + 9 := by omega
                                    have HNL : Hid (¬ 1024 < 9 + (body m).length) := by show ¬ _; rw [HBL.out]; exact hlong
                                    obtain ⟨K, hK, hK1⟩ : ∃ K : Nat, m.kind = K ∧ K < 256 := ⟨m.kind.toNat, by have := HKR.out; omega, by have := HKR.out; omega⟩
                                    have HKN : Hid (m.kind.toNat = K) := by show _ = _; rw [hK, Int.toNat_natCast]
                                    rw [hK] at c0
                                    go_wp2_with fail
                                    refine (rwhole_any K hK1 at_ bl ct_ (body m) (by omega) z4 HPT.out (body_u8 m)).mono ?_
                                    rintro e wz ⟨vz, rfl, hoz, hbz⟩
                                    have HZ : Hid (EncPost w bs er (.returned (.tuple #[vz, .int .i64 0])) wz) := HL0.out wz vz HCK.out HNL.out (by rw [HKN.out]; exact hoz.mono (HBW.out _ HE4.out).size) ((HBW.out _ HE4.out).trans (hbz.mono (HBW.out _ HE4.out).size))
                                    obtain ⟨az, nz, cz, hvz, -, -⟩ := own_slice hoz
                                    subst hvz
                                    clear hoz hbz c0 c1 c2 c3 c4 c5 c6 c7 c8 c9 c10 c11 c12 c13 c14 c15 c16
                                    go_wp2_with fail
                                    refine bodyPost_ret (v := .tuple #[.slice az nz cz, .int .i64 0]) (by simp [results, Try.results28, go_sem]) rfl ?_
                                    exact HZ.out
                              · by_cases k2 : m.kind = 2
                                · rw [k2] at c0
                                  as_aux_lemma =>
                                    obtain ⟨hrr, hva, hvb⟩ : routeR m.rt = true ∧ (∀ p ∈ m.lost, 0 ≤ p.2 ∧ p.2 ≤ 32) ∧ (∀ p ∈ m.hv, 0 ≤ p.2 ∧ p.2 ≤ 32) := by
                                      have h2 := HCK.out.r
                                      unfold inR at h2
                                      rw [if_neg k1, if_pos k2] at h2
                                      exact ⟨h2, allV_len HCK.out.vl, allV_len HCK.out.vh⟩
                                    have HL1 : Hid ((pfxsB m.lost).length ≤ 100000) := by
                                      have := (pfxsB_len (ps := m.lost) (fun p hp => by have := hva p hp; omega)).1
                                      show _ ≤ _
                                      have := HN1.out
                                      omega
                                    have HL2 : Hid ((attrs m).length ≤ 100000) := by have := attrs_len (rr_of hrr); show _ ≤ _; omega
                                    have HL3 : Hid ((pfxsB m.hv).length ≤ 100000) := by
                                      have := (pfxsB_len (ps := m.hv) (fun p hp => by have := hvb p hp; omega)).1
                                      show _ ≤ _
                                      have := HN2.out
                                      omega
                                    have HBD : Hid (body m = big 2 (pfxsB m.lost).length ++ pfxsB m.lost ++ big 2 (attrs m).length ++ attrs m ++ pfxsB m.hv) := by
                                      show _ = _
                                      unfold body updB piece
                                      rw [if_neg k1, if_pos k2]
                                      simp only [List.append_assoc]
                                    have HRR : Hid (RR m.rt) := rr_of hrr
                                    have HVA : Hid (∀ p ∈ m.lost, 0 ≤ p.2 ∧ p.2 ≤ 32) := hva
                                    have HVB : Hid (∀ p ∈ m.hv, 0 ≤ p.2 ∧ p.2 ≤ 32) := hvb
                                    clear hrr hva hvb
                                    have HPL : Hid (∀ W, Below w0.heap.size w0 W → Calls Try.prog 51 #[.slice la n1 s.lc] W fun e w' => ∃ v, e = .returned v ∧ OwnL E8 W.heap.size w' v (pfxsB m.lost) ∧ Below W.heap.size W w') := fun W h => docprefixes_any la s.lc m.lost n1 HN1.out (by omega) W (HML.out W h).1 (HMW.out W h).il HVA.out
                                    have HAT : Hid (∀ W, Below w0.heap.size w0 W → Calls Try.prog 52 #[.agg #[.int .i64 m.kind, .int .i64 m.dom, .int .i64 m.id, .int .i64 m.hold, .int .i64 m.code, .slice la n1 s.lc, .slice ha n2 s.hc, .int .u32 m.rt.pa, .int .i64 m.rt.pn, .slice s.p q1 s.pc, .int .i64 m.rt.org, .int .i64 m.rt.pref, .int .i64 m.rt.med, .int .u32 m.rt.next, .slice ma q2 s.mc, .slice s.c q3 s.cc, .int .i64 m.rt.auth]] W fun e w' => ∃ v, e = .returned v ∧ OwnL E8 W.heap.size w' v (attrs m) ∧ Below W.heap.size W w') := fun W h => by
                                      have := docattrs_any m s W (HMW.out W h) HRR.out (fun h0 => attrs_nil HCK.out.f h0)
                                      rw [HV.out] at this
                                      exact this
                                    have HDR : Hid (Below w0.heap.size w0 y.drew) := HRB2.out.trans ((Below.refl _ y).drew.mono HRB2.out.size)
                                    have HK2 : Hid (m.kind = 2) := k2
                                    clear k1 k2
                                    go_upto_region 41 with fail
                                    clear c0 c1 c2 c3 c4 c5 c6 c7 c8 c9 c10 c11 c12 c13 c14 c15 c16
                                    refine wp_region_held_drew (S := fun W => MBox b m s W) (by kernel_rfl) (HBX.out _ HDR.out) (fun hHeld => ?_)
                                    refine wpAnyH_take (i := 0) (v := ?_) rfl (by kernel_rfl) (by kernel_rfl) (by kernel_rfl) (fun _ _ _ h => h) (Or.inl ⟨by rfl, ?_⟩) (by assumption) ?_
                                    case refine_2 => intro W hSw; go_simp; try rfl
                                    try simp only [Act.put, List.getElem_toArray, List.getElem_cons_zero, List.setIfInBounds_toArray, List.set_cons_zero, List.set_cons_succ]
                                    refine wpAnyH_take (i := 1) (v := .slice la n1 s.lc) rfl (by kernel_rfl) (by kernel_rfl) (by kernel_rfl) (fun _ _ _ h => h) (Or.inl ⟨by rfl, ?_⟩) (by assumption) ?_
                                    · intro W hSw
                                      have c5 := hSw.c5
                                      rw [HN1.out, HLA.out] at c5
                                      go_simp
                                      try rfl
                                    try simp only [Act.put, List.getElem_toArray, List.getElem_cons_zero, List.getElem_cons_succ, List.setIfInBounds_toArray, List.set_cons_zero, List.set_cons_succ]
                                    refine wpAnyH_take (i := 3) (v := .agg #[.int .i64 m.kind, .int .i64 m.dom, .int .i64 m.id, .int .i64 m.hold, .int .i64 m.code, .slice la n1 s.lc, .slice ha n2 s.hc, .int .u32 m.rt.pa, .int .i64 m.rt.pn, .slice s.p q1 s.pc, .int .i64 m.rt.org, .int .i64 m.rt.pref, .int .i64 m.rt.med, .int .u32 m.rt.next, .slice ma q2 s.mc, .slice s.c q3 s.cc, .int .i64 m.rt.auth]) rfl (by kernel_rfl) (by kernel_rfl) (by kernel_rfl) (fun _ _ _ h => h) (Or.inl ⟨by rfl, ?_⟩) (by assumption) ?_
                                    · intro W hSw
                                      obtain ⟨c0, c1, c2, c3, c4, c5, c6, c7, c8, c9, c10, c11, c12, c13, c14, c15, c16⟩ := hSw
                                      rw [HN1.out, HLA.out] at c5
                                      rw [HN2.out, HHA.out] at c6
                                      rw [HQ1.out] at c9
                                      rw [HQ2.out, HMA.out] at c14
                                      rw [HQ3.out] at c15
                                      go_simp
                                      try rfl
                                    try simp only [Act.put, List.getElem_toArray, List.getElem_cons_zero, List.getElem_cons_succ, List.setIfInBounds_toArray, List.set_cons_zero, List.set_cons_succ]
                                    refine wpAnyH_ready (rs := [2]) (by kernel_rfl) (by simp) ?_
                                    refine AllReadyH.cons rfl (fun K hK => ?_) AllReadyH.nil
                                    go_simp
                                    refine (HPL.out _ HDR.out).mono ?_
                                    rintro e u1 ⟨v1, rfl, ho1, hb1⟩
                                    have HF1 : Hid (Below w0.heap.size w0 u1) := HDR.out.trans (hb1.mono HDR.out.size)
                                    have HO1 : Hid (OwnL E8 w0.heap.size u1 v1 (pfxsB m.lost)) := ho1.mono HDR.out.size
                                    clear hHeld ho1 hb1
                                    refine hK.out _ _ (HBX.out _ HF1.out) (fun hHeld => ?_)
                                    clear hK K
                                    try simp only [Act.put, List.getElem_toArray, List.getElem_cons_zero, List.getElem_cons_succ, List.setIfInBounds_toArray, List.set_cons_zero, List.set_cons_succ]
                                    refine wpAnyH_ready (rs := [4]) (by kernel_rfl) (by simp) ?_
                                    refine AllReadyH.cons rfl (fun K hK => ?_) AllReadyH.nil
                                    go_simp
                                    refine (HAT.out _ HF1.out).mono ?_
                                    rintro e u2 ⟨v2, rfl, ho2, hb2⟩
                                    have HF2 : Hid (Below w0.heap.size w0 u2) := HF1.out.trans (hb2.mono HF1.out.size)
                                    have HO2 : Hid (OwnL E8 w0.heap.size u2 v1 (pfxsB m.lost) ∧ OwnL E8 w0.heap.size u2 v2 (attrs m)) := ⟨HO1.out.bel hb2, ho2.mono HF1.out.size⟩
                                    clear hHeld ho2 hb2
                                    refine hK.out _ _ (HBX.out _ HF2.out) (fun hHeld => ?_)
                                    clear hK K
                                    try simp only [Act.put, List.getElem_toArray, List.getElem_cons_zero, List.getElem_cons_succ, List.setIfInBounds_toArray, List.set_cons_zero, List.set_cons_succ]
                                    refine wpAnyH_take (i := 5) (v := ?_) rfl (by kernel_rfl) (by kernel_rfl) (by kernel_rfl) (fun _ _ _ h => h) (Or.inl ⟨by rfl, ?_⟩) (by assumption) ?_
                                    case refine_2 => intro W hSw; go_simp; try rfl
                                    try simp only [Act.put, List.getElem_toArray, List.getElem_cons_zero, List.getElem_cons_succ, List.setIfInBounds_toArray, List.set_cons_zero, List.set_cons_succ]
                                    refine wpAnyH_take (i := 6) (v := ?_) rfl (by kernel_rfl) (by kernel_rfl) (by kernel_rfl) (fun _ _ _ h => h) (Or.inl ⟨by rfl, ?_⟩) (by assumption) ?_
                                    case refine_2 => intro W hSw; go_simp; try rfl
                                    try simp only [Act.put, List.getElem_toArray, List.getElem_cons_zero, List.getElem_cons_succ, List.setIfInBounds_toArray, List.set_cons_zero, List.set_cons_succ]
                                    refine wpAnyH_done (by kernel_rfl) ?_ _
                                    clear hHeld
                                    obtain ⟨a1, l1, k1', hv1, ho1, hl1⟩ := own_slice HO2.out.1
                                    obtain ⟨a2, l2, k2', hv2, ho2, hl2⟩ := own_slice HO2.out.2
                                    subst hv1
                                    subst hv2
                                    have HP1 : Hid (Pc8 u2 a1 l1 k1' (pfxsB m.lost)) := OwnL.pc8 ho1
                                    have HP2 : Hid (Pc8 u2 a2 l2 k2' (attrs m)) := OwnL.pc8 ho2
                                    have hl1' : l1 ≤ 100000 := by rw [← hl1]; exact HL1.out
                                    have hl2' : l2 ≤ 100000 := by rw [← hl2]; exact HL2.out
                                    have HLL : Hid ((pfxsB m.lost).length = l1 ∧ (attrs m).length = l2) := ⟨hl1, hl2⟩
                                    clear ho1 ho2 hl1 hl2
                                    go_wp2_with fail
                                    refine (rbytes_any l1 2 (by decide) (by omega) u2).mono ?_
                                    rintro e u3 ⟨v3, rfl, ho3, hb3⟩
                                    have HO3 : Hid (OwnL E8 u2.heap.size u3 v3 (big 2 l1)) := ho3
                                    have HY3 : Hid (Below u2.heap.size u2 u3) := hb3
                                    have HP13 : Hid (Pc8 u3 a1 l1 k1' (pfxsB m.lost)) := HP1.out.bel hb3
                                    have hby3 : (big 2 l1).length + l1 ≤ 1099511627775 := by rw [big_len]; omega
                                    clear ho3 hb3
                                    go_wp2_with (at_builtin; refine list_appL E8 rfl _ _ 22 rfl rfl u2.heap.size v3 (big 2 l1) (pfxsB m.lost) a1 l1 k1' u3 hby3 rfl HO3.out rfl HP13.out.l HP13.out.nil HP13.out.len HY3.out.size ?_)
                                    intro v4 u4 ho4 hg4 hat4
                                    have HO4 : Hid (OwnL E8 u2.heap.size u4 v4 (big 2 l1 ++ pfxsB m.lost)) := ho4.out
                                    have HY4 : Hid (Below u2.heap.size u2 u4) := HY3.out.grown hg4.out HY3.out.size (fun g e => (HO3.out.row.lt g e).1)
                                    clear ho4 hg4 hat4 HO3 HY3 HP13
                                    go_wp2_with fail
                                    refine (rbytes_any l2 2 (by decide) (by omega) u4).mono ?_
                                    rintro e u5 ⟨v5, rfl, ho5, hb5⟩
                                    obtain ⟨a5, n5, k5, rfl, ho5', hl5⟩ := own_slice ho5
                                    rw [big_len] at hl5
                                    subst hl5
                                    have HP5 : Hid (Pc8 u5 a5 2 k5 (big 2 l2)) := OwnL.pc8 ho5'
                                    have HO5 : Hid (OwnL E8 u2.heap.size u5 v4 (big 2 l1 ++ pfxsB m.lost)) := HO4.out.bel hb5
                                    have HY5 : Hid (Below u2.heap.size u2 u5) := HY4.out.trans (hb5.mono HY4.out.size)
                                    have hby5 : (big 2 l1 ++ pfxsB m.lost).length + 2 ≤ 1099511627775 := by rw [List.length_append, big_len, HLL.out.1]; omega
                                    clear ho5 ho5' hb5
                                    go_wp2_with (at_builtin; refine list_appL E8 rfl _ _ 22 rfl rfl u2.heap.size v4 (big 2 l1 ++ pfxsB m.lost) (big 2 l2) a5 2 k5 u5 hby5 rfl HO5.out rfl HP5.out.l HP5.out.nil HP5.out.len HY5.out.size ?_)
                                    intro v6 u6 ho6 hg6 hat6
                                    have HO6 : Hid (OwnL E8 u2.heap.size u6 v6 (big 2 l1 ++ pfxsB m.lost ++ big 2 l2)) := by show OwnL E8 u2.heap.size u6 v6 (big 2 l1 ++ pfxsB m.lost ++ big 2 l2); simpa using ho6.out
                                    have HY6 : Hid (Below u2.heap.size u2 u6) := HY5.out.grown hg6.out HY5.out.size (fun g e => (HO5.out.row.lt g e).1)
                                    have HP26 : Hid (Pc8 u6 a2 l2 k2' (attrs m)) := HP2.out.bel HY6.out
                                    have hby6 : (big 2 l1 ++ pfxsB m.lost ++ big 2 l2).length + l2 ≤ 1099511627775 := by rw [List.length_append, List.length_append, big_len, big_len, HLL.out.1]; omega
                                    clear ho6 hg6 hat6 HO5 HY5 HP5 HO4 HY4
                                    go_wp2_with (at_builtin; refine list_appL E8 rfl _ _ 22 rfl rfl u2.heap.size v6 (big 2 l1 ++ pfxsB m.lost ++ big 2 l2) (attrs m) a2 l2 k2' u6 hby6 rfl HO6.out rfl HP26.out.l HP26.out.nil HP26.out.len HY6.out.size ?_)
                                    intro v7 u7 ho7 hg7 hat7
                                    have HO7 : Hid (OwnL E8 u2.heap.size u7 v7 (big 2 l1 ++ pfxsB m.lost ++ big 2 l2 ++ attrs m)) := by show OwnL E8 u2.heap.size u7 v7 (big 2 l1 ++ pfxsB m.lost ++ big 2 l2 ++ attrs m); simpa using ho7.out
                                    have HY7 : Hid (Below u2.heap.size u2 u7) := HY6.out.grown hg7.out HY6.out.size (fun g e => (HO6.out.row.lt g e).1)
                                    have HE7 : Hid (Below w0.heap.size w0 u7) := HF2.out.trans (HY7.out.mono HF2.out.size)
                                    clear ho7 hg7 hat7 HO6 HY6 HP26
                                    obtain ⟨c0, c1, c2, c3, c4, c5, c6, c7, c8, c9, c10, c11, c12, c13, c14, c15, c16⟩ := HBX.out u7 HE7.out
                                    rw [HN1.out, HLA.out] at c5
                                    rw [HN2.out, HHA.out] at c6
                                    rw [HQ1.out] at c9
                                    rw [HQ2.out, HMA.out] at c14
                                    rw [HQ3.out] at c15
                                    rw [HK2.out] at c0
                                    go_wp2_with fail
                                    refine (docprefixes_any ha s.hc m.hv n2 HN2.out (by omega) u7 (HML.out u7 HE7.out).2.1 (HMW.out u7 HE7.out).ih HVB.out).mono ?_
                                    rintro e u8 ⟨v8, rfl, ho8, hb8⟩
                                    obtain ⟨a8, n8, k8, rfl, ho8', hl8⟩ := own_slice ho8
                                    have HP8 : Hid (Pc8 u8 a8 n8 k8 (pfxsB m.hv)) := OwnL.pc8 ho8'
                                    have hl8' : n8 ≤ 100000 := by rw [← hl8]; exact HL3.out
                                    have HO8 : Hid (OwnL E8 u2.heap.size u8 v7 (big 2 l1 ++ pfxsB m.lost ++ big 2 l2 ++ attrs m)) := HO7.out.bel hb8
                                    have HY8 : Hid (Below u2.heap.size u2 u8) := HY7.out.trans (hb8.mono HY7.out.size)
                                    have hby8 : (big 2 l1 ++ pfxsB m.lost ++ big 2 l2 ++ attrs m).length + n8 ≤ 1099511627775 := by rw [List.length_append, List.length_append, List.length_append, big_len, big_len, HLL.out.1, HLL.out.2]; omega
                                    clear ho8 ho8' hb8 hl8
                                    go_wp2_with (at_builtin; refine list_appL E8 rfl _ _ 22 rfl rfl u2.heap.size v7 (big 2 l1 ++ pfxsB m.lost ++ big 2 l2 ++ attrs m) (pfxsB m.hv) a8 n8 k8 u8 hby8 rfl HO8.out rfl HP8.out.l HP8.out.nil HP8.out.len HY8.out.size ?_)
                                    intro v9 u9 ho9 hg9 hat9
                                    have HO9 : Hid (OwnL E8 u2.heap.size u9 v9 (body m)) := by
                                      rw [HBD.out, HLL.out.1, HLL.out.2]
                                      show OwnL E8 u2.heap.size u9 v9 (big 2 l1 ++ pfxsB m.lost ++ big 2 l2 ++ attrs m ++ pfxsB m.hv)
                                      simpa using ho9.out
                                    have HY9 : Hid (Below u2.heap.size u2 u9) := HY8.out.grown hg9.out HY8.out.size (fun g e => (HO8.out.row.lt g e).1)
                                    have HE9 : Hid (Below w0.heap.size w0 u9) := HF2.out.trans (HY9.out.mono HF2.out.size)
                                    clear ho9 hg9 hat9 HO8 HY8 HP8 HO7 HY7
                                    clear c0 c1 c2 c3 c4 c5 c6 c7 c8 c9 c10 c11 c12 c13 c14 c15 c16
                                    obtain ⟨at_, nt_, ct_, hvt, hot, hlt_⟩ := own_slice HO9.out
                                    rw [HBL.out] at hlt_
                                    subst hlt_
                                    subst hvt
                                    have HPT : Hid (Pc8 u9 at_ bl ct_ (body m)) := OwnL.pc8 hot
                                    clear hot
                                    obtain ⟨c0, c1, c2, c3, c4, c5, c6, c7, c8, c9, c10, c11, c12, c13, c14, c15, c16⟩ := HBX.out u9 HE9.out
                                    rw [HN1.out, HLA.out] at c5
                                    rw [HN2.out, HHA.out] at c6
                                    rw [HQ1.out] at c9
                                    rw [HQ2.out, HMA.out] at c14
                                    rw [HQ3.out] at c15
                                    by_cases hlong : 1024 < 9 + bl
                                    · have hl2 : (1024 : Int) < (bl : Int) + 9 := by omega
                                      have HE6 : Hid (EncPost w bs er (.returned (.tuple #[.slice none 0 0, .int .i64 6])) u9) := HL6.out _ HCK.out (by rw [HBL.out]; exact hlong) (HBW.out _ HE9.out)
                                      go_wp2_with fail
                                      refine bodyPost_ret (v := .tuple #[.slice none 0 0, .int .i64 6]) (by simp [results, Try.results28, go_sem]) rfl ?_
                                      exact HE6.out
                                    · have hl2 : ¬ (1024 : Int) < (bl : Int) + 9 := by omega
                                      have HNL : Hid (¬ 1024 < 9 + (body m).length) := by show ¬ _; rw [HBL.out]; exact hlong
                                      obtain ⟨K, hK, hK1⟩ : ∃ K : Nat, m.kind = K ∧ K < 256 := ⟨m.kind.toNat, by have := HKR.out; omega, by have := HKR.out; omega⟩
                                      have HKN : Hid (m.kind.toNat = K) := by show _ = _; rw [hK, Int.toNat_natCast]
                                      rw [hK] at c0
                                      go_wp2_with fail
                                      refine (rwhole_any K hK1 at_ bl ct_ (body m) (by omega) u9 HPT.out (body_u8 m)).mono ?_
                                      rintro e wz ⟨vz, rfl, hoz, hbz⟩
                                      have HZ : Hid (EncPost w bs er (.returned (.tuple #[vz, .int .i64 0])) wz) := HL0.out wz vz HCK.out HNL.out (by rw [HKN.out]; exact hoz.mono (HBW.out _ HE9.out).size) ((HBW.out _ HE9.out).trans (hbz.mono (HBW.out _ HE9.out).size))
                                      obtain ⟨az, nz, cz, hvz, -, -⟩ := own_slice hoz
                                      subst hvz
                                      clear hoz hbz c0 c1 c2 c3 c4 c5 c6 c7 c8 c9 c10 c11 c12 c13 c14 c15 c16
                                      go_wp2_with fail
                                      refine bodyPost_ret (v := .tuple #[.slice az nz cz, .int .i64 0]) (by simp [results, Try.results28, go_sem]) rfl ?_
                                      exact HZ.out
                                · by_cases k4 : m.kind = 4
                                  · rw [k4] at c0
                                    as_aux_lemma =>
                                      obtain ⟨D, hD, hD1⟩ : ∃ D : Nat, m.code = D ∧ D < 256 := by
                                        have h1 := HCK.out.r
                                        unfold inR at h1
                                        rw [if_neg k1, if_neg k2, if_pos k4, wi_iff] at h1
                                        exact ⟨m.code.toNat, by omega, by omega⟩
                                      rw [hD] at c4
                                      have HBD : Hid (body m = [D]) := by
                                        show _ = _
                                        unfold body
                                        rw [if_neg k1, if_neg k2, if_pos k4, hD, Int.toNat_natCast, big1 hD1]
                                      have hDu : IntKind.u8.wrap (D : Int) = (D : Int) := by rw [IntKind.wrap_u8]; omega
                                      clear hD k1 k2 k4
                                      obtain ⟨y1, hy1⟩ : ∃ W, y.alloc (Obj.cells #[.int .u8 (D : Int)] 5) = W := ⟨_, rfl⟩
                                      obtain ⟨m1, m2⟩ := own_made E8 (W := y) (W' := y1) [D] 1 rfl (by decide) hy1
                                      have HO1 : Hid (OwnL E8 y.heap.size y1 (.slice (some ⟨y.heap.size, 0, none⟩) 1 1) (body m)) := by rw [HBD.out]; exact m1
                                      have HE1 : Hid (Below w0.heap.size w0 y1) := HRB2.out.trans (m2.mono HRB2.out.size)
                                      clear m1 m2
                                      go_upto_region 48 with fail
                                      try rw [hy1]
                                      clear hy1
                                      clear c0 c1 c2 c3 c4 c5 c6 c7 c8 c9 c10 c11 c12 c13 c14 c15 c16
                                      obtain ⟨yv, hyv⟩ : ∃ v, Value.slice (some ⟨y.heap.size, 0, none⟩) 1 1 = v := ⟨_, rfl⟩
                                      rw [hyv] at HO1 ⊢
                                      clear hyv
                                      obtain ⟨at_, nt_, ct_, hvt, hot, hlt_⟩ := own_slice HO1.out
                                      rw [HBL.out] at hlt_
                                      subst hlt_
                                      subst hvt
                                      have HPT : Hid (Pc8 y1 at_ bl ct_ (body m)) := OwnL.pc8 hot
                                      clear hot
                                      obtain ⟨c0, c1, c2, c3, c4, c5, c6, c7, c8, c9, c10, c11, c12, c13, c14, c15, c16⟩ := HBX.out y1 HE1.out
                                      rw [HN1.out, HLA.out] at c5
                                      rw [HN2.out, HHA.out] at c6
                                      rw [HQ1.out] at c9
                                      rw [HQ2.out, HMA.out] at c14
                                      rw [HQ3.out] at c15
                                      by_cases hlong : 1024 < 9 + bl
                                      · have hl2 : (1024 : Int) < (bl : Int) + 9 := by omega
                                        have HE6 : Hid (EncPost w bs er (.returned (.tuple #[.slice none 0 0, .int .i64 6])) y1) := HL6.out _ HCK.out (by rw [HBL.out]; exact hlong) (HBW.out _ HE1.out)
                                        go_wp2_with fail
                                        refine bodyPost_ret (v := .tuple #[.slice none 0 0, .int .i64 6]) (by simp [results, Try.results28, go_sem]) rfl ?_
                                        exact HE6.out
                                      · have hl2 : ¬ (1024 : Int) < (bl : Int) + 9 := by omega
                                        have HNL : Hid (¬ 1024 < 9 + (body m).length) := by show ¬ _; rw [HBL.out]; exact hlong
                                        obtain ⟨K, hK, hK1⟩ : ∃ K : Nat, m.kind = K ∧ K < 256 := ⟨m.kind.toNat, by have := HKR.out; omega, by have := HKR.out; omega⟩
                                        have HKN : Hid (m.kind.toNat = K) := by show _ = _; rw [hK, Int.toNat_natCast]
                                        rw [hK] at c0
                                        go_wp2_with fail
                                        refine (rwhole_any K hK1 at_ bl ct_ (body m) (by omega) y1 HPT.out (body_u8 m)).mono ?_
                                        rintro e wz ⟨vz, rfl, hoz, hbz⟩
                                        have HZ : Hid (EncPost w bs er (.returned (.tuple #[vz, .int .i64 0])) wz) := HL0.out wz vz HCK.out HNL.out (by rw [HKN.out]; exact hoz.mono (HBW.out _ HE1.out).size) ((HBW.out _ HE1.out).trans (hbz.mono (HBW.out _ HE1.out).size))
                                        obtain ⟨az, nz, cz, hvz, -, -⟩ := own_slice hoz
                                        subst hvz
                                        clear hoz hbz c0 c1 c2 c3 c4 c5 c6 c7 c8 c9 c10 c11 c12 c13 c14 c15 c16
                                        go_wp2_with fail
                                        refine bodyPost_ret (v := .tuple #[.slice az nz cz, .int .i64 0]) (by simp [results, Try.results28, go_sem]) rfl ?_
                                        exact HZ.out
                                  · have HBD : Hid (body m = []) := by
                                      show _ = _
                                      unfold body
                                      rw [if_neg k1, if_neg k2, if_neg k4]
                                    have k1b : (m.kind == 1) = false := by simpa using k1
                                    have k2b : (m.kind == 2) = false := by simpa using k2
                                    have k4b : (m.kind == 4) = false := by simpa using k4
                                    have HO1 : Hid (OwnL E8 y.heap.size y (.slice none 0 0) (body m)) := by rw [HBD.out]; exact OwnL.nil _ _ _
                                    go_upto_region 48 with fail
                                    clear k1 k2 k4 k1b k2b k4b
                                    clear c0 c1 c2 c3 c4 c5 c6 c7 c8 c9 c10 c11 c12 c13 c14 c15 c16
                                    have hbl0 : bl = 0 := by
                                      have h5 := HBL.out
                                      rw [HBD.out] at h5
                                      exact h5.symm
                                    subst hbl0
                                    have HPT : Hid (Pc8 y none 0 0 (body m)) := OwnL.pc8 HO1.out
                                    obtain ⟨c0, c1, c2, c3, c4, c5, c6, c7, c8, c9, c10, c11, c12, c13, c14, c15, c16⟩ := HBX.out y HRB2.out
                                    rw [HN1.out, HLA.out] at c5
                                    rw [HN2.out, HHA.out] at c6
                                    rw [HQ1.out] at c9
                                    rw [HQ2.out, HMA.out] at c14
                                    rw [HQ3.out] at c15
                                    have HNL : Hid (¬ 1024 < 9 + (body m).length) := by show ¬ _; rw [HBL.out]; decide
                                    obtain ⟨K, hK, hK1⟩ : ∃ K : Nat, m.kind = K ∧ K < 256 := ⟨m.kind.toNat, by have := HKR.out; omega, by have := HKR.out; omega⟩
                                    have HKN : Hid (m.kind.toNat = K) := by show _ = _; rw [hK, Int.toNat_natCast]
                                    rw [hK] at c0
                                    go_wp2_with fail
                                    refine (rwhole_any K hK1 none 0 0 (body m) (by decide) y HPT.out (body_u8 m)).mono ?_
                                    rintro e wz ⟨vz, rfl, hoz, hbz⟩
                                    have HZ : Hid (EncPost w bs er (.returned (.tuple #[vz, .int .i64 0])) wz) := HL0.out wz vz HCK.out HNL.out (by rw [HKN.out]; exact hoz.mono (HBW.out _ HRB2.out).size) ((HBW.out _ HRB2.out).trans (hbz.mono (HBW.out _ HRB2.out).size))
                                    obtain ⟨az, nz, cz, hvz, -, -⟩ := own_slice hoz
                                    subst hvz
                                    clear hoz hbz c0 c1 c2 c3 c4 c5 c6 c7 c8 c9 c10 c11 c12 c13 c14 c15 c16
                                    go_wp2_with fail
                                    refine bodyPost_ret (v := .tuple #[.slice az nz cz, .int .i64 0]) (by simp [results, Try.results28, go_sem]) rfl ?_
                                    exact HZ.out
end Go.Proofs.Ytghlgkpfcpcopaa.Pv
