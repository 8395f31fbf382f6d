/- Encode: what it answers. -/
import Derived.Test.YtagfdmkgnedlbaeLsU
import Derived.Test.YtagfdmkgnedlbaeLsY
import Derived.OwnWalk
namespace Go.Proofs.Ytagfdmkgnedlbae.Ls
open Go.ChangeShapes Go.WideShapes Go.ChangeAt Go.RowKit Go.Joins Go.Proofs.Ytagfdmkgnedlbae.PM Go.Proofs.Ytagfdmkgnedlbae.Ask
set_option linter.unusedVariables false

theorem inB_of {lo hi n : Int} (h : inB lo hi n = true) : lo ≤ n ∧ n ≤ hi := by
  unfold inB at h
  simpa using h
theorem nt8 {n : Int} (h0 : 0 ≤ n) (h1 : n < 256) : Nt n 8 := ⟨h0, by omega⟩
theorem nt16 {n : Int} (h0 : 0 ≤ n) (h1 : n < 65536) : Nt n 16 := ⟨h0, by omega⟩
theorem nt32 {n : Int} (h0 : 0 ≤ n) (h1 : n < 4294967296) : Nt n 32 := ⟨h0, by omega⟩
theorem vld_of {a n : Int} (h : vld a n = true) : 0 ≤ n ∧ n ≤ 32 := by
  have := (vld_iff a n).1 h
  exact ⟨this.1, this.2.1⟩
theorem rl_ok {og : Int} : ∀ {xs : List (Int × Int × Int)} {last : Int}, rl og last xs = true → ∀ x ∈ xs, linkOk og x = true
  | [], _, _, x, hx => by cases hx
  | y :: ys, last, h, x, hx => by
    rw [rl_cons, Bool.and_eq_true, Bool.and_eq_true] at h
    rcases List.mem_cons.1 hx with e | e
    · rw [e]; exact h.1
    · exact rl_ok h.2.2 x e
theorem rs_ok : ∀ {xs : List (Int × Int × Int)} {p : Option (Int × Int × Int)}, rs p xs = true → ∀ x ∈ xs, stubOk x = true
  | [], _, _, x, hx => by cases hx
  | y :: ys, p, h, x, hx => by
    rw [rs_cons, Bool.and_eq_true, Bool.and_eq_true] at h
    rcases List.mem_cons.1 hx with e | e
    · rw [e]; exact h.1
    · exact rs_ok h.2.2 x e
theorem right_fits {x : Lsa} (h : right x = true) (hp : In32 x.pa) (hs : S32 x.stubs) : Fits x := by
  unfold right at h
  rw [Bool.and_eq_true, Bool.and_eq_true, Bool.and_eq_true] at h
  obtain ⟨⟨h1, h2, h3⟩, h4⟩ := h
  have i1 := inB_of h1
  have i2 := inB_of h2
  have i3 := inB_of h3
  have hp0 : 0 ≤ x.pa := hp.1
  have hp1 : x.pa < 4294967296 := hp.2
  split at h4
  · rename_i hk
    rw [Bool.and_eq_true] at h4
    have i4 := inB_of h4.1
    have h5 := h4.2
    unfold tellsI at h5
    simp only [Bool.and_eq_true, decide_eq_true_eq, beq_iff_eq] at h5
    obtain ⟨⟨h6, h7⟩, h8, h9, h10, h11⟩ := h5
    unfold rightL at h10
    unfold rightS at h11
    simp only [Bool.and_eq_true, decide_eq_true_eq] at h10 h11
    refine ⟨nt8 (by omega) (by omega), nt8 (by omega) (by omega), nt16 (by omega) (by omega), nt16 (by omega) (by omega), nt32 (by omega) (by omega), nt32 (by omega) (by omega), nt32 (by omega) (by omega), nt32 (by omega) (by omega), nt32 (by omega) (by omega), h10.1, h11.1, ?_, ?_⟩
    · intro l hl
      have := rl_ok h10.2 l hl
      unfold linkOk at this
      simp only [Bool.and_eq_true] at this
      have j1 := inB_of this.1
      have j2 := inB_of this.2.2.1
      have j3 := inB_of this.2.2.2
      exact ⟨nt32 (by omega) (by omega), nt16 (by omega) (by omega), nt16 (by omega) (by omega)⟩
    · intro l hl
      have := rs_ok h11.2 l hl
      unfold stubOk at this
      simp only [Bool.and_eq_true] at this
      have j1 := vld_of this.1
      have j2 := inB_of this.2
      have j3 := hs l hl
      have j4 : 0 ≤ l.1 := j3.1
      have j5 : l.1 < 4294967296 := j3.2
      exact ⟨nt32 (by omega) (by omega), nt8 (by omega) (by omega), nt16 (by omega) (by omega)⟩
  · have key : ∀ t : Prop, tellsP x = true → (0 ≤ x.pn ∧ x.pn ≤ 32) ∧ (0 ≤ x.cost ∧ x.cost ≤ 16777215) ∧ x.links = [] ∧ x.stubs = [] := fun _ h5 => by
      unfold tellsP at h5
      simp only [Bool.and_eq_true, beq_iff_eq, List.length_eq_zero_iff] at h5
      exact ⟨vld_of h5.1, inB_of h5.2.1, h5.2.2.1, h5.2.2.2⟩
    split at h4
    · rename_i hk
      simp only [Bool.and_eq_true, beq_iff_eq] at h4
      obtain ⟨k1, k2, k3, k4⟩ := key True h4.1.2
      have i4 := inB_of h4.1.1
      refine ⟨nt8 (by omega) (by omega), nt8 (by omega) (by omega), nt16 (by omega) (by omega), nt16 (by omega) (by omega), nt32 (by omega) (by omega), nt32 (by omega) (by omega), nt32 (by omega) (by omega), nt32 (by omega) (by omega), nt32 (by omega) (by omega), by rw [k3]; simp, by rw [k4]; simp, ?_, ?_⟩
      · intro l hl; rw [k3] at hl; cases hl
      · intro l hl; rw [k4] at hl; cases hl
    · split at h4
      · rename_i hk
        simp only [Bool.and_eq_true, beq_iff_eq] at h4
        obtain ⟨k1, k2, k3, k4⟩ := key True h4.1.2
        have i4 := inB_of h4.2
        have i5 := h4.1.1
        refine ⟨nt8 (by omega) (by omega), nt8 (by omega) (by omega), nt16 (by omega) (by omega), nt16 (by omega) (by omega), nt32 (by omega) (by omega), nt32 (by omega) (by omega), nt32 (by omega) (by omega), nt32 (by omega) (by omega), nt32 (by omega) (by omega), by rw [k3]; simp, by rw [k4]; simp, ?_, ?_⟩
        · intro l hl; rw [k3] at hl; cases hl
        · intro l hl; rw [k4] at hl; cases hl
      · cases h4
/-- what a packet in range keeps to -/
theorem range_of {kind frm area seen : Int} {xs : List Lsa} (h : rangeP kind frm area seen xs = true) : (1 ≤ frm ∧ frm ≤ 4294967295) ∧ (0 ≤ area ∧ area ≤ 65534) ∧ (0 ≤ seen ∧ seen ≤ 4294967295) ∧ xs.length ≤ 16 ∧ ∀ x ∈ xs, right x = true := by
  unfold rangeP at h
  rw [Bool.and_eq_true, Bool.and_eq_true] at h
  obtain ⟨h1, h2, h3⟩ := h
  refine ⟨inB_of h1, inB_of h2, ?_⟩
  split at h3
  · simp only [Bool.and_eq_true, beq_iff_eq] at h3
    have h4 := inB_of h3.2
    refine ⟨h4, by omega, fun x hx => ?_⟩
    rw [List.length_eq_zero_iff.1 h3.1] at hx
    cases hx
  · simp only [Bool.and_eq_true, beq_iff_eq, List.all_eq_true] at h3
    have h4 := inB_of h3.2.1
    exact ⟨by omega, by omega, h3.2.2⟩
def encBody (p : Pk) : List Nat := big 2 22342 ++ big 1 p.kind.toNat ++ big 1 p.xs.length ++ big 2 (bytesOf 20 p.xs) ++ big 2 p.area.toNat ++ big 4 p.frm.toNat ++ big 4 p.seen.toNat ++ p.xs.flatMap encL
def encP (p : Pk) : List Nat × Int :=
  if isK p.kind = false then ([], 13) else if rangeP p.kind p.frm p.area p.seen p.xs = false then ([], 2) else
  if 4096 < bytesOf 20 p.xs then ([], 6) else (encBody p ++ big 4 (crc 4294967295 (encBody p)), 0)
/-- what Encode leaves -/
def EncPost (w : World) (bs : List Nat) (er : Int) (e : Ending) (w' : World) : Prop := ∃ v, e = .returned (.tuple #[v, .int .i64 er]) ∧ OwnB w.heap.size w' v bs ∧ Below w.heap.size w w'
theorem LAll.in32 {w : World} {va : Option Addr} {xs : List Lsa} (h : LAll w va xs) : ∀ x ∈ xs, In32 x.pa ∧ S32 x.stubs := by
  intro x hx
  obtain ⟨i, hi, e⟩ := List.getElem_of_mem hx
  obtain ⟨b, o, la, lc, sa, sc, -, -, -, hok⟩ := h.cells i hi
  subst e
  exact ⟨hok.p32, hok.s32⟩
theorem big_u8 (size n : Nat) : ∀ d ∈ big size n, d < 256 := by
  intro d hd
  simp only [big, List.mem_map] at hd
  obtain ⟨i, -, rfl⟩ := hd
  exact Nat.mod_lt _ (by decide)
theorem OwnB.by {N n cap : Nat} {w : World} {va : Option Addr} {bs : List Nat} (h : OwnB N w (.slice va n cap) bs) (hu : ∀ d ∈ bs, d < 256) : By w va bs ∧ bs.length = n ∧ n ≤ cap ∧ ∀ b o, va = some ⟨b, o, none⟩ → N ≤ b := by
  rcases h.row.2 with ⟨h1, h2⟩ | ⟨g, c, cur, hv, hg, hb, hnc, hcm, hsz, htk⟩
  · cases h1
    exact ⟨⟨by omega, fun i hi => by omega, hu⟩, h2, Nat.le_refl _, fun b o e => by cases e⟩
  · cases hv
    refine ⟨⟨by unfold maxLen at hcm; omega, fun i hi => ⟨g, 0, rfl, (Array.getElem?_eq_some_iff.1 hb).1, ?_⟩, hu⟩, rfl, hnc, fun b o e => by cases e; exact hg⟩
    rw [Nat.zero_add, h.row.cellAt i (by omega)]
    simp [bcs, hi]
theorem WI.ann {N bw : Nat} {w4 : World} {own : Option Nat} {bs : List Nat} {W : World} (h : WI N bw w4 own bs W) (x : Lsa) (la : Option Addr) (lc : Nat) (sa : Option Addr) (sc : Nat) (w0 : World) (hb : Below w0.heap.size w0 W) (hw0 : w0.heap.size ≤ bw) (hN0 : w0.heap.size ≤ N) (hx : LsOk w0 x la sa) (hf : Fits x) (hbig : bs.length ≤ 100000) :
    Calls Try.prog 50 #[.pointer (some ⟨bw, 0, none⟩), lsaV x la lc sa sc] W fun e w' => (∃ u, e = .returned u) ∧ WI N bw w4 own (bs ++ encL x) w' := by
  obtain ⟨own', h1, h2⟩ := h.st
  refine (wann_any N bw bs own' x la lc sa sc w0 W h1 hb hw0 hN0 hx hf hbig).mono ?_
  rintro e w' ⟨hu, own2, h3, h4⟩
  exact ⟨hu, ⟨own2, h3, h2.trans h4⟩⟩
theorem encL_u8 (x : Lsa) : ∀ d ∈ encL x, d < 256 := by
  intro d hd
  unfold encL encHd at hd
  simp only [List.mem_append, List.mem_flatMap] at hd
  rcases hd with (h1 | ⟨a, -, h1⟩) | ⟨a, -, h1⟩
  · rcases h1 with ((((((((((h1 | h1) | h1) | h1) | h1) | h1) | h1) | h1) | h1) | h1) | h1) <;> exact big_u8 _ _ d h1
  · unfold encLk at h1
    simp only [List.mem_append] at h1
    rcases h1 with (h1 | h1) | h1 <;> exact big_u8 _ _ d h1
  · unfold encSt at h1
    simp only [List.mem_append] at h1
    rcases h1 with (h1 | h1) | h1 <;> exact big_u8 _ _ d h1
theorem crc_lt : ∀ (bs : List Nat) (t : Nat), t < 4294967296 → crc t bs < 4294967296
  | [], t, h => h
  | b :: bs, t, h => crc_lt bs _ (cbits_lt 8 _ _ h)
theorem bytesOf_flat (xs : List Lsa) : ∀ n, bytesOf n xs = n + (xs.flatMap encL).length := by
  induction xs with
  | nil => intro n; simp [bytesOf]
  | cons x xs ih =>
    intro n
    have e : bytesOf n (x :: xs) = bytesOf (n + lsaB x) xs := rfl
    rw [e, ih, List.flatMap_cons, List.length_append, encL_len]
    unfold lsaB
    omega
set_option maxRecDepth 100000 in
set_option maxHeartbeats 16000000 in
theorem encode_any (kind frm area seen : Int) (va : Option Addr) (cap : Nat) (xs : List Lsa) (L : Nat) (hL : xs.length = L) (w : World) (hx : LAll w va xs) (bs : List Nat) (er : Int) (hd : encP ⟨kind, frm, area, seen, xs⟩ = (bs, er)) :
    Calls Try.prog 18 #[pkV kind frm area seen va L cap] w (EncPost w bs er) := by
  have HX : Hid (LAll w va xs) := hx
  have HLX : Hid (xs.length = L) := hL
  have HERR : Hid (∀ W e5, Below w.heap.size w W → EncPost w [] e5 (.returned (.tuple #[.slice none 0 0, .int .i64 e5])) W) := fun W e5 hb => ⟨_, rfl, ⟨World.ownsRow_nil _ _ _ _⟩, hb⟩
  unfold encP at hd
  dsimp only at hd
  obtain ⟨kb, hkb⟩ : ∃ k, isK kind = k := ⟨_, rfl⟩
  obtain ⟨rg, hrg⟩ : ∃ r, rangeP kind frm area seen xs = r := ⟨_, rfl⟩
  obtain ⟨sz, hsz⟩ : ∃ r, bytesOf 20 xs = r := ⟨_, rfl⟩
  rw [hkb, hrg, hsz] at hd
  have HRG : Hid (rangeP kind frm area seen xs = rg) := hrg
  have HKB : Hid (isK kind = kb) := hkb
  have HSZ : Hid (bytesOf 20 xs = sz) := hsz
  have HD : Hid ((if kb = false then ([], 13) else if rg = false then ([], 2) else if 4096 < sz then ([], 6) else (encBody ⟨kind, frm, area, seen, xs⟩ ++ big 4 (crc 4294967295 (encBody ⟨kind, frm, area, seen, xs⟩)), 0)) = (bs, er)) := hd
  clear hx hL hkb hrg hsz hd
  unfold pkV
  go_enter Try.func18, Try.ntmps18
  go_wp2_with fail
  obtain ⟨w0, hw0⟩ : ∃ w0, w.alloc (Obj.cells #[.int .i64 kind, .int .i64 frm, .int .i64 area, .int .i64 seen, .slice va L cap] 36) = w0 := ⟨_, rfl⟩
  obtain ⟨hz, hzf, hbz, hszz⟩ := pbox_new hw0
  obtain ⟨s, hs⟩ : ∃ s, w.heap.size = s := ⟨_, rfl⟩
  rw [hs] at hz hszz
  rw [hw0, hs]
  have HB0 : Hid (Below w.heap.size w w0) := hbz
  have HP0 : Hid (PBox s kind frm area seen (.slice va L cap) w0) := hz
  clear hw0 hzf hz hbz
  refine (kind_any kind w0).mono ?_
  rintro e w5 ⟨rfl, hw5⟩
  rw [hw5]
  clear hw5 w5
  rw [show decide (kind = 1 ∨ kind = 2 ∨ kind = 3) = kb from HKB.out]
  obtain ⟨c0, c1, c2, c3, c4⟩ := HP0.out
  cases kb with
  | false =>
    have hd3 := HD.out
    rw [if_pos rfl] at hd3
    cases hd3
    go_wp2_with fail
    refine bodyPost_ret (v := .tuple #[.slice none 0 0, .int .i64 13]) (by simp [results, Try.results18, go_sem]) rfl ?_
    exact HERR.out _ _ HB0.out
  | true =>
    have HD2 : Hid ((if rg = false then ([], 2) else if 4096 < sz then ([], 6) else (encBody ⟨kind, frm, area, seen, xs⟩ ++ big 4 (crc 4294967295 (encBody ⟨kind, frm, area, seen, xs⟩)), 0)) = (bs, er)) := by
      have := HD.out
      rw [if_neg (by decide)] at this
      exact this
    clear HD
    have HRA := range_any kind frm area seen va cap xs L HLX.out w0 (HX.out.bel HB0.out) rg HRG.out
    unfold pkV at HRA
    go_wp2_with fail
    refine HRA.mono ?_
    rintro e w1 ⟨rfl, hb1⟩
    have HP1 : Hid (PBox s kind frm area seen (.slice va L cap) w1) := HP0.out.blk (hb1.block s (by omega))
    have HB1 : Hid (Below w.heap.size w w1) := HB0.out.trans (hb1.mono HB0.out.size)
    have hs1 : s < w1.heap.size := by have := hb1.size; omega
    clear c0 c1 c2 c3 c4 hb1 HRA HP0 HB0
    obtain ⟨c0, c1, c2, c3, c4⟩ := HP1.out
    cases rg with
    | false =>
      have hd3 := HD2.out
      rw [if_pos rfl] at hd3
      cases hd3
      go_wp2_with fail
      refine bodyPost_ret (v := .tuple #[.slice none 0 0, .int .i64 2]) (by simp [results, Try.results18, go_sem]) rfl ?_
      exact HERR.out _ _ HB1.out
    | true =>
      have HD3 : Hid ((if 4096 < sz then ([], 6) else (encBody ⟨kind, frm, area, seen, xs⟩ ++ big 4 (crc 4294967295 (encBody ⟨kind, frm, area, seen, xs⟩)), 0)) = (bs, er)) := by
        have := HD2.out
        rw [if_neg (by decide)] at this
        exact this
      clear HD2
      obtain ⟨hr1, hr2, hr3, hr4, hr5⟩ := range_of HRG.out
      have HFT : Hid (∀ x ∈ xs, Fits x) := fun x hx => right_fits (hr5 x hx) (HX.out.in32 x hx).1 (HX.out.in32 x hx).2
      have hL16 : L ≤ 16 := by rw [← HLX.out]; exact hr4
      have HPS := psize_any kind frm area seen va cap xs L HLX.out (by omega) (fun x hx => by have h1 := (HFT.out x hx).nl; have h2 := (HFT.out x hx).ns; unfold lsaB; omega) w1 (HX.out.bel HB1.out) (sz : Int) (by rw [HSZ.out])
      unfold pkV at HPS
      clear hr4 hr5
      go_wp2_with fail
      refine HPS.mono ?_
      rintro e w2 ⟨rfl, hb1⟩
      have HP2 : Hid (PBox s kind frm area seen (.slice va L cap) w2) := HP1.out.blk (hb1.block s (by omega))
      have HB2 : Hid (Below w.heap.size w w2) := HB1.out.trans (hb1.mono HB1.out.size)
      have hs2 : s < w2.heap.size := by have := hb1.size; omega
      clear c0 c1 c2 c3 c4 hb1 HPS HP1 HB1
      obtain ⟨c0, c1, c2, c3, c4⟩ := HP2.out
      by_cases h40 : 4096 < sz
      · have hd3 := HD3.out
        rw [if_pos h40] at hd3
        cases hd3
        have h40' : (4096 : Int) < sz := by omega
        go_wp2_with fail
        refine bodyPost_ret (v := .tuple #[.slice none 0 0, .int .i64 6]) (by simp [results, Try.results18, go_sem]) rfl ?_
        exact HERR.out _ _ HB2.out
      · have h40' : ¬ (4096 : Int) < sz := by omega
        have hd3 := HD3.out
        rw [if_neg h40] at hd3
        obtain ⟨EB, hEB⟩ : ∃ b, encBody ⟨kind, frm, area, seen, xs⟩ = b := ⟨_, rfl⟩
        have HEB : Hid (encBody ⟨kind, frm, area, seen, xs⟩ = EB) := hEB
        rw [hEB] at hd3
        obtain ⟨cc, hcc⟩ : ∃ c, crc 4294967295 EB = c := ⟨_, rfl⟩
        have HCC : Hid (crc 4294967295 EB = cc) := hcc
        rw [hcc] at hd3
        cases hd3
        clear hEB hcc HD3
        obtain ⟨i0, hi, hz0, hz1, hz2⟩ := info_parts info8
        go_wp2_with (at_make; refine wpList_make_own _ rfl _ _ 37 rfl w.heap.size 5 i0 _ 1 Try.underlying37 hi hz0 hz1 _ _ _ sz rfl rfl rfl (by rw [hz2]; omega) (by unfold maxLen; omega) HB2.out.size ?_)
        intro w3 hown hg
        obtain ⟨g, hgg⟩ : ∃ g, w2.heap.size = g := ⟨_, rfl⟩
        rw [hgg] at hown
        have hgl := hown.lt g rfl
        have HP3 : Hid (PBox s kind frm area seen (.slice va L cap) w3) := HP2.out.blk (hg.block s hs2 (by simp))
        have HB3 : Hid (Below w.heap.size w w3) := HB2.out.grown hg HB2.out.size (fun k e => by cases e)
        have HOWN : Hid (OwnB s w3 (.slice (some ⟨g, 0, none⟩) 0 sz) []) := ⟨hown⟩
        rw [hgg]
        clear hown hg c0 c1 c2 c3 c4 HP2 HB2
        go_wp2_with fail
        obtain ⟨bw, hbw⟩ : ∃ g, w3.heap.size = g := ⟨_, rfl⟩
        obtain ⟨w4, hw4⟩ : ∃ w4, w3.alloc (Obj.cells #[.slice (some ⟨g, 0, none⟩) 0 sz] 74) = w4 := ⟨_, rfl⟩
        have hb4 : Below w3.heap.size w3 w4 := by rw [← hw4]; exact (Below.refl _ w3).alloc (Nat.le_refl _) _
        have hs4 : w4.heap.size = bw + 1 := by rw [← hw4, ← hbw]; simp
        have HW0 : Hid (WI s bw w4 (some g) [] w4) := by
          refine ⟨some g, ⟨⟨_, ?_, HOWN.out.bel hb4, rfl⟩, ?_, by simp; omega, by omega, by omega⟩, Kw.refl _ _ _⟩
          · rw [← hw4, ← hbw]; simp [go_sem]
          · rw [← hw4, ← hbw]; simp [go_sem]
        have HP4 : Hid (PBox s kind frm area seen (.slice va L cap) w4) := HP3.out.blk (hb4.block s (by omega))
        have HB4 : Hid (Below w.heap.size w w4) := HB3.out.trans (hb4.mono HB3.out.size)
        rw [hw4, hbw]
        clear hw4 hb4 HP3 HB3 HOWN
        have HLOW : Hid (∀ bs W, WI s bw w4 (some g) bs W → Below w.heap.size w W) := by
          rintro bs W ⟨o1, h1, h2⟩
          exact h2.low HB4.out (by omega) HB4.out.size (fun k e => by cases e; omega)
        have HPB : Hid (∀ bs W, WI s bw w4 (some g) bs W → PBox s kind frm area seen (.slice va L cap) W) := by
          rintro bs W ⟨o1, h1, h2⟩
          exact HP4.out.blk (h2.block s (by omega) (by omega) (by simp; omega))
        have F0 : Hid (Nt 22342 16) := nt16 (by decide) (by decide)
        have hk3 : kind = 1 ∨ kind = 2 ∨ kind = 3 := by have := HKB.out; unfold isK at this; simpa using this
        have F1 : Hid (Nt kind 8) := nt8 (by omega) (by omega)
        have F4 : Hid (Nt area 16) := nt16 (by omega) (by omega)
        have F5 : Hid (Nt frm 32) := nt32 (by omega) (by omega)
        have F6 : Hid (Nt seen 32) := nt32 (by omega) (by omega)
        clear hk3
        refine (HW0.out.numI 2 22342 2 rfl (by decide) F0.out (by decide) (by simp)).mono ?_
        rintro e y1 ⟨⟨x1, rfl⟩, hW1⟩
        have HW1 : Hid (WI s bw w4 (some g) ([] ++ big 2 (22342 : Int).toNat) y1) := hW1
        clear HW0 hW1
        obtain ⟨c0, c1, c2, c3, c4⟩ := HPB.out _ _ HW1.out
        go_wp2_with fail
        clear c0 c1 c2 c3 c4
        refine (HW1.out.numI 1 kind 1 rfl (by decide) F1.out (by decide) (by simp [big_len])).mono ?_
        rintro e y2 ⟨⟨x2, rfl⟩, hW2⟩
        have HW2 : Hid (WI s bw w4 (some g) ([] ++ big 2 (22342 : Int).toNat ++ big 1 (kind : Int).toNat) y2) := hW2
        clear HW1 hW2
        obtain ⟨c0, c1, c2, c3, c4⟩ := HPB.out _ _ HW2.out
        go_wp2_with fail
        clear c0 c1 c2 c3 c4
        refine (HW2.out.numN 1 L 1 rfl (by decide) (by omega) (by simp [big_len])).mono ?_
        rintro e y3 ⟨⟨x3, rfl⟩, hW3⟩
        have HW3 : Hid (WI s bw w4 (some g) ([] ++ big 2 (22342 : Int).toNat ++ big 1 (kind : Int).toNat ++ big 1 L) y3) := hW3
        clear HW2 hW3
        obtain ⟨c0, c1, c2, c3, c4⟩ := HPB.out _ _ HW3.out
        go_wp2_with fail
        clear c0 c1 c2 c3 c4
        refine (HW3.out.numN 2 sz 2 rfl (by decide) (by omega) (by simp [big_len])).mono ?_
        rintro e y4 ⟨⟨x4, rfl⟩, hW4⟩
        have HW4 : Hid (WI s bw w4 (some g) ([] ++ big 2 (22342 : Int).toNat ++ big 1 (kind : Int).toNat ++ big 1 L ++ big 2 sz) y4) := hW4
        clear HW3 hW4
        obtain ⟨c0, c1, c2, c3, c4⟩ := HPB.out _ _ HW4.out
        go_wp2_with fail
        clear c0 c1 c2 c3 c4
        refine (HW4.out.numI 2 area 2 rfl (by decide) F4.out (by decide) (by simp [big_len])).mono ?_
        rintro e y5 ⟨⟨x5, rfl⟩, hW5⟩
        have HW5 : Hid (WI s bw w4 (some g) ([] ++ big 2 (22342 : Int).toNat ++ big 1 (kind : Int).toNat ++ big 1 L ++ big 2 sz ++ big 2 (area : Int).toNat) y5) := hW5
        clear HW4 hW5
        obtain ⟨c0, c1, c2, c3, c4⟩ := HPB.out _ _ HW5.out
        go_wp2_with fail
        clear c0 c1 c2 c3 c4
        refine (HW5.out.numI 4 frm 4 rfl (by decide) F5.out (by decide) (by simp [big_len])).mono ?_
        rintro e y6 ⟨⟨x6, rfl⟩, hW6⟩
        have HW6 : Hid (WI s bw w4 (some g) ([] ++ big 2 (22342 : Int).toNat ++ big 1 (kind : Int).toNat ++ big 1 L ++ big 2 sz ++ big 2 (area : Int).toNat ++ big 4 (frm : Int).toNat) y6) := hW6
        clear HW5 hW6
        obtain ⟨c0, c1, c2, c3, c4⟩ := HPB.out _ _ HW6.out
        go_wp2_with fail
        clear c0 c1 c2 c3 c4
        refine (HW6.out.numI 4 seen 4 rfl (by decide) F6.out (by decide) (by simp [big_len])).mono ?_
        rintro e y7 ⟨⟨x7, rfl⟩, hW7⟩
        have HW7 : Hid (WI s bw w4 (some g) ([] ++ big 2 (22342 : Int).toNat ++ big 1 (kind : Int).toNat ++ big 1 L ++ big 2 sz ++ big 2 (area : Int).toNat ++ big 4 (frm : Int).toNat ++ big 4 (seen : Int).toNat) y7) := hW7
        clear HW6 hW7
        obtain ⟨c0, c1, c2, c3, c4⟩ := HPB.out _ _ HW7.out
        go_wp2_with fail
        clear c0 c1 c2 c3 c4
        obtain ⟨E, hE⟩ : ∃ E, [] ++ big 2 (22342 : Int).toNat ++ big 1 (kind : Int).toNat ++ big 1 L ++ big 2 sz ++ big 2 (area : Int).toNat ++ big 4 (frm : Int).toNat ++ big 4 (seen : Int).toNat = E := ⟨_, rfl⟩
        have hEl : E.length = 16 := by rw [← hE]; simp [big_len]
        have HE8 : Hid (∀ d ∈ E, d < 256) := by
          rw [← hE]
          intro d hd
          simp only [List.nil_append, List.mem_append] at hd
          rcases hd with (((((h1 | h1) | h1) | h1) | h1) | h1) | h1 <;> exact big_u8 _ _ d h1
        have HEE : Hid (E ++ xs.flatMap encL = EB) := by
          rw [← HEB.out, ← hE]
          unfold encBody
          dsimp only
          rw [HLX.out, HSZ.out]
          simp only [List.nil_append]
          rfl
        rw [hE] at HW7
        have hfl : (xs.flatMap encL).length ≤ 4096 := by
          have := bytesOf_flat xs 20
          rw [HSZ.out] at this
          omega
        clear hE HEB
        go_loopw [44] (fun iv wr => ∃ k : Nat, k ≤ L ∧ iv = .int .i64 k ∧ WI s bw w4 (some g) (E ++ (xs.take k).flatMap encL) wr) (fun i _ => L - (intOf i).toNat)
        case atStart => exact ⟨0, by omega, rfl, by rw [List.take_zero, List.flatMap_nil, List.append_nil]; exact HW7.out⟩
        case round =>
          obtain ⟨k, hk, rfl, hwi⟩ := hrel
          have HWI : Hid (WI s bw w4 (some g) (E ++ (xs.take k).flatMap encL) wr) := hwi
          have HBR : Hid (Below w.heap.size w wr) := HLOW.out _ _ hwi
          clear hwi HW7
          by_cases hlt : k < L
          · have hkd : k < xs.length := by rw [HLX.out]; exact hlt
            have hlen : (E ++ (xs.take k).flatMap encL).length ≤ 5000 := by
              have h1 : (xs.flatMap encL) = (xs.take k).flatMap encL ++ (xs.drop k).flatMap encL := by rw [← List.flatMap_append, List.take_append_drop]
              rw [h1, List.length_append] at hfl
              rw [List.length_append]
              omega
            obtain ⟨b, o, la, lc, sa, sc, rfl, hbl, hat0, hok⟩ := HX.out.cells k hkd
            have hat := hat0.bel HBR.out
            have hft := HFT.out _ (List.getElem_mem hkd)
            obtain ⟨x, hx⟩ : ∃ x, xs[k] = x := ⟨_, rfl⟩
            have HNX : Hid (E ++ (xs.take (k + 1)).flatMap encL = (E ++ (xs.take k).flatMap encL) ++ encL x) := by
              show _ = _
              rw [List.take_succ_eq_append_getElem hkd, hx, List.flatMap_append, List.append_assoc]
              simp
            rw [hx] at hat hok hft
            have HRT : Hid (∀ W, WI s bw w4 (some g) (E ++ (xs.take k).flatMap encL) W → Calls Try.prog 50 #[.pointer (some ⟨bw, 0, none⟩), lsaV x la lc sa sc] W fun e w' => (∃ u, e = .returned u) ∧ WI s bw w4 (some g) ((E ++ (xs.take k).flatMap encL) ++ encL x) w') := fun W hW => hW.ann x la lc sa sc w (HLOW.out _ _ hW) (by omega) (by omega) hok hft (by omega)
            obtain ⟨d0, d1, d2, d3, d4, d5, d6, d7, d8, d9, d10⟩ := hat
            unfold lsaV at HRT
            obtain ⟨ll, hll⟩ : ∃ l, x.links.length = l := ⟨_, rfl⟩
            obtain ⟨sl, hsl⟩ : ∃ l, x.stubs.length = l := ⟨_, rfl⟩
            rw [hll, hsl] at HRT
            rw [hll] at d7
            rw [hsl] at d8
            have hkk : (k : Int) < L := by omega
            have kk0 : (0 : Int) ≤ k := by omega
            clear hx hok hll hsl hft hat0 hlen
            go_wp2_with fail
            refine (HRT.out _ (HWI.out.alloc _)).mono ?_
            rintro e z1 ⟨⟨v1, rfl⟩, hwi⟩
            have HN : Hid (WI s bw w4 (some g) (E ++ (xs.take (k + 1)).flatMap encL) z1) := by
              rw [HNX.out]
              exact hwi
            clear d0 d1 d2 d3 d4 d5 d6 d7 d8 d9 d10 hwi HRT
            go_wp2_with fail
            exact ⟨⟨k + 1, by omega, by simp, HN.out⟩, by simp [intOf]; omega⟩
          · obtain rfl : L = k := by omega
            have hwe := HWI.out
            rw [List.take_of_length_le (by rw [HLX.out]; omega), HEE.out] at hwe
            have HWE : Hid (WI s bw w4 (some g) EB wr) := hwe
            obtain ⟨o1, hwr, -⟩ := hwe.st
            obtain ⟨v, hv, hvo, -⟩ := hwr.row
            obtain ⟨va', vl', vc', rfl⟩ := ownB_slice hvo
            have hu8 : ∀ d ∈ EB, d < 256 := by
              rw [← HEE.out]
              intro d hd
              rcases List.mem_append.1 hd with h1 | h1
              · exact HE8.out d h1
              · obtain ⟨x, hx, h2⟩ := List.mem_flatMap.1 h1
                exact encL_u8 x d h2
            have HU8 : Hid (∀ d ∈ EB, d < 256) := hu8
            have hby := hvo.by hu8
            have HCK := check_any va' vc' EB vl' hby.2.1 wr hby.1 (cc : Int) (by rw [HCC.out])
            have hccl : cc < 4294967296 := by rw [← HCC.out]; exact crc_lt _ _ (by decide)
            have hebl : EB.length ≤ 5000 := by rw [← HEE.out, List.length_append]; omega
            clear HWI hwr hvo hu8 hby hwe
            go_wp2_with fail
            refine HCK.mono ?_
            rintro e w5 ⟨rfl, hw5⟩
            rw [hw5]
            clear hw5 w5 HCK hv
            go_wp2_with fail
            refine (HWE.out.numN 4 cc 4 rfl (by decide) (by omega) (by omega)).mono ?_
            rintro e z1 ⟨⟨v1, rfl⟩, hwi⟩
            have HBZ : Hid (Below w.heap.size w z1) := HLOW.out _ _ hwi
            obtain ⟨o2, hwr, -⟩ := hwi.st
            obtain ⟨v, hv, hvo, -⟩ := hwr.row
            obtain ⟨va2, vl2, vc2, rfl⟩ := ownB_slice hvo
            have HFIN : Hid (EncPost w (EB ++ big 4 cc) 0 (.returned (.tuple #[.slice va2 vl2 vc2, .int .i64 0])) z1) := ⟨_, rfl, by rw [hs]; exact hvo, HBZ.out⟩
            clear hwi hwr hvo
            go_wp2_with fail
            refine bodyPost_ret (v := .tuple #[.slice va2 vl2 vc2, .int .i64 0]) (by simp [results, Try.results18, go_sem]) rfl HFIN.out
end Go.Proofs.Ytagfdmkgnedlbae.Ls
