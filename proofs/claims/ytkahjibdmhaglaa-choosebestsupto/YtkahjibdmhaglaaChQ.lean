/- The order of offers: Order, whole. -/
import Derived.Test.YtkahjibdmhaglaaChP
namespace Go.Proofs.Ytkahjibdmhaglaa.Ch
open Go.ChangeShapes Go.WideShapes Go.ChangeAt Go.RowKit Go.Joins Go.Deep Go.Lib Go.Proofs.Ytkahjibdmhaglaa.Ge Go.Proofs.Ytkahjibdmhaglaa.Ss
open Go.Sort hiding Below
set_option linter.unusedVariables false
set_option linter.unusedSimpArgs false

def OrdPost (w : World) (n : Nat) (xs : List (Of × Oa)) (e : Ending) (w' : World) : Prop := ∃ (a : Option Addr) (m c : Nat) (ps : List Nat), e = .returned (.slice a m c) ∧ ps.length = m ∧ OrdR xs n ps ∧ Below w.heap.size w w' ∧ (m = 0 ∨ ∃ g, a = some ⟨g, 0, none⟩ ∧ w.heap.size ≤ g ∧ RowN g ps w')
theorem st_lst {sb : Nat} {w : World} {ks : List Nat} (hl : sb < w.heap.size) (hs : ks.length ≤ 100) (h : ∀ i (hi : i < ks.length), w.cell? ⟨sb, i, none⟩ = some (fvK ks[i])) : Lst ES w (some ⟨sb, 0, none⟩) (ks.map some) := ⟨by rw [List.length_map]; omega, fun i hi => ⟨sb, 0, rfl, hl, fun j hj => by
  have hj1 : j < 1 := hj
  obtain rfl : j = 0 := by omega
  have e1 : ES.k = 1 := rfl
  rw [e1, Nat.mul_one, Nat.zero_add, Nat.add_zero, h i (by simpa using hi), List.getElem_map]
  rfl⟩⟩
theorem gb_below {N g : Nat} {w W : World} (h : w.grownBy W (some g)) (hg : N ≤ g) (hN : N ≤ w.heap.size) : Below N w W := ⟨h.os, h.tape, h.output, h.size, fun b hb => h.block b (Nat.lt_of_lt_of_le hb hN) (fun e => by cases e; omega)⟩
def S1Post (N : Nat) (a : Option Addr) (m : Nat) (w : World) (P : List Nat → Prop) (e : Ending) (w' : World) : Prop := e = .returned (.tuple #[]) ∧ ∃ ps, ps.length = m ∧ P ps ∧ Below N w w' ∧ (m = 0 ∨ ∃ g, a = some ⟨g, 0, none⟩ ∧ N ≤ g ∧ RowN g ps w')
theorem sort1_any (N lb lo n lc sb1 sb2 c5 : Nat) (xs : List (Of × Oa)) (bf : Nat) (a : Option Addr) (m c : Nat) (R : List Nat) (hm : R.length = m) (hms : m ≤ 1000) (hin : InN R n) (w : World) (hF : FdR N lb lo n lc sb1 sb2 c5 xs w) (hb : SB FdK bf (fdL lb lo n lc sb1 sb2 c5) w) (hbN : bf < N) (hrow : m = 0 ∨ ∃ g, a = some ⟨g, 0, none⟩ ∧ N ≤ g ∧ RowN g R w) : Calls Try.prog 23 #[.slice a m c, .func (.func 24) #[] #[.pointer (some ⟨bf, 0, none⟩)]] w (S1Post N a m w (fun ps => ps.Perm R ∧ ps.Pairwise (fun i j => 0 ≤ ord1 xs j i))) := by
  rcases Nat.eq_zero_or_pos m with h0 | h0
  · subst h0
    have hR : R = [] := List.length_eq_zero_iff.1 hm
    subst hR
    exact (sort_none a c _ w).mono fun e w' ⟨he, hw⟩ => ⟨he, [], rfl, ⟨List.Perm.refl _, List.Pairwise.nil⟩, by rw [hw]; exact Below.refl _ _, .inl rfl⟩
  · rcases hrow with h1 | ⟨g, rfl, hg, hr⟩
    · omega
    · have hn0 : 0 < n := by
        have : 0 < R.length := by omega
        have := hin R[0] (List.getElem_mem _)
        omega
      have eg : ∀ args w, (callFunc 24 args).run Try.prog w = .ok (.enter 24 args) w := enters_of Try.func24 (by kernel_rfl) rfl
      have hcmp : CmpLays1 Try.prog 24 #[.pointer (some ⟨bf, 0, none⟩)] (encN n) (fun x y => ord1 xs (x % n) (y % n)) g 0 R.toArray.size w := fun k os dk hs x y => by
        have hW := gb_below (sortW_grown (n := n) (k := k) (w := w) (g := g) (d := dk) (os := os)) hg hF.hN
        exact ord1_any N lb lo n lc sb1 sb2 c5 xs bf (x % n) (y % n) (Nat.mod_lt _ hn0) (Nat.mod_lt _ hn0) _ (hF.bel hW) (hb.blk (hW.block bf hbN)) _ rfl
      have hcon := Any.slices_SortFunc Try.sortI (encN n) (encN_one n) (fun x y => ord1 xs (x % n) (y % n)) (swo_cm (cm_of (fun x : Nat => x % n) cm_ord1)) 24 #[.pointer (some ⟨bf, 0, none⟩)] g 0 c R.toArray w eg hcmp (hr.holds hin) hr.lt (by simp; omega)
      have hsz : R.toArray.size = m := by simpa using hm
      rw [hsz] at hcon
      refine Calls.mono hcon ?_
      rintro e w' ⟨rfl, d', k, os, hp, hs, rfl⟩
      obtain ⟨p1, -, p3⟩ := hp
      rw [hsz] at p1
      have hperm : d'.toList.Perm R := by
        have e1 : d'.extract 0 m = d' := by rw [← p1]; simp
        have e2 : R.toArray.extract 0 m = R.toArray := by rw [← hsz]; simp
        rw [e1, e2] at p3
        simpa using p3
      have hin2 : ∀ x ∈ d'.toList, x < n := fun x hx => hin x (hperm.subset hx)
      refine ⟨rfl, d'.toList, by simpa using p1, ⟨hperm, ?_⟩, gb_below sortW_grown hg hF.hN, .inr ⟨g, rfl, hg, hr.sorted (by rw [p1, hm]) hin2 hin⟩⟩
      rw [List.pairwise_iff_getElem]
      intro i j hi hj hij
      have hi' : i < d'.size := by simpa using hi
      have hj' : j < d'.size := by simpa using hj
      have h1 := hs i j (Nat.zero_le _) hij (by omega)
      have e1 : d'[i]! = d'.toList[i] := by simp [hi']
      have e2 : d'[j]! = d'.toList[j] := by simp [hj']
      rw [e1, e2] at h1
      have h2 : ¬ ord1 xs (d'.toList[j] % n) (d'.toList[i] % n) < 0 := of_decide_eq_false h1
      rw [Nat.mod_eq_of_lt (hin2 _ (List.getElem_mem _)), Nat.mod_eq_of_lt (hin2 _ (List.getElem_mem _))] at h2
      omega
theorem sort2_any (N lb lo n lc sb1 sb2 c5 : Nat) (xs : List (Of × Oa)) (bf b5 g5 c6 : Nat) (la : Nat → Nat) (hla : ∀ i, i < n → la i < n) (a : Option Addr) (m c : Nat) (R : List Nat) (hm : R.length = m) (hms : m ≤ 1000) (hin : InN R n) (hnd : R.Nodup) (w : World) (hF : FdR N lb lo n lc sb1 sb2 c5 xs w) (hb : SB FdK bf (fdL lb lo n lc sb1 sb2 c5) w) (hbN : bf < N) (hrow : m = 0 ∨ ∃ g, a = some ⟨g, 0, none⟩ ∧ N ≤ g ∧ RowN g R w ∧ g ≠ b5 ∧ g ≠ g5) (h5 : w.cell? ⟨b5, 0, none⟩ = some (.slice (some ⟨g5, 0, none⟩) n c6)) (hl : ∀ i, i < n → w.cell? ⟨g5, i, none⟩ = some (.int .i64 (la i : Int))) : Calls Try.prog 31 #[.slice a m c, .func (.func 32) #[] #[.pointer (some ⟨bf, 0, none⟩), .pointer (some ⟨b5, 0, none⟩)]] w (S1Post N a m w (fun ps => ps.Perm R ∧ ps.Pairwise (fun i j => 0 ≤ ord2 xs la j i ∧ (ord2 xs la i j < 0 ∨ R.idxOf i ≤ R.idxOf j)))) := by
  rcases Nat.eq_zero_or_pos m with h0 | h0
  · subst h0
    have hR : R = [] := List.length_eq_zero_iff.1 hm
    subst hR
    exact (stable_none a c _ w).mono fun e w' ⟨he, hw⟩ => ⟨he, [], rfl, ⟨List.Perm.refl _, List.Pairwise.nil⟩, by rw [hw]; exact Below.refl _ _, .inl rfl⟩
  · rcases hrow with h1 | ⟨g, rfl, hg, hr, hg1, hg2⟩
    · omega
    · have hn0 : 0 < n := by
        have : 0 < R.length := by omega
        have := hin R[0] (List.getElem_mem _)
        omega
      have eg : ∀ args w, (callFunc 32 args).run Try.prog w = .ok (.enter 32 args) w := enters_of Try.func32 (by kernel_rfl) rfl
      have hcmp : CmpLays1 Try.prog 32 #[.pointer (some ⟨bf, 0, none⟩), .pointer (some ⟨b5, 0, none⟩)] (encN n) (fun x y => ord2 xs la (x % n) (y % n)) g 0 R.toArray.size w := fun k os dk hs x y => by
        have hGB := sortW_grown (n := n) (k := k) (w := w) (g := g) (d := dk) (os := os)
        have hW := gb_below hGB hg hF.hN
        exact ord2_any N lb lo n lc sb1 sb2 c5 xs bf b5 g5 c6 (x % n) (y % n) la hla (Nat.mod_lt _ hn0) (Nat.mod_lt _ hn0) _ (hF.bel hW) (hb.blk (hW.block bf hbN)) ((World.cell?_of_block (w := w) (hGB.block b5 (World.block_lt_of_cell? w _ h5) (fun e => by cases e; exact hg1 rfl))).trans h5) (fun i hi => (World.cell?_of_block (w := w) (hGB.block g5 (World.block_lt_of_cell? w _ (hl i hi)) (fun e => by cases e; exact hg2 rfl))).trans (hl i hi)) _ rfl
      have hsz : R.toArray.size = m := by simpa using hm
      have hcon := sortstable_any (encN n) (fun x y => ord2 xs la (x % n) (y % n)) (fun x => R.idxOf x) (swo_cm (cm_of (fun x : Nat => x % n) (cm_ord2 la))) 32 #[.pointer (some ⟨bf, 0, none⟩), .pointer (some ⟨b5, 0, none⟩)] g 0 c m R.toArray w eg hcmp ⟨encN_one n, hr.holds hin, hr.lt⟩ hsz (by omega) (fun i hi => by
        have hi2 : i < R.length := by omega
        have e1 : R.toArray[i]! = R[i] := by simp [hi2]
        show R.idxOf (R.toArray[i]!) = i
        rw [e1]
        exact hnd.idxOf_getElem i hi2)
      refine Calls.mono hcon ?_
      rintro e w' ⟨rfl, d', ⟨⟨p1, -, p3⟩, hs⟩, k, os, rfl⟩
      rw [hsz] at p1
      have hperm : d'.toList.Perm R := by
        have e1 : d'.extract 0 m = d' := by rw [← p1]; simp
        have e2 : R.toArray.extract 0 m = R.toArray := by rw [← hsz]; simp
        rw [e1, e2] at p3
        simpa using p3
      have hin2 : ∀ x ∈ d'.toList, x < n := fun x hx => hin x (hperm.subset hx)
      refine ⟨rfl, d'.toList, by simpa using p1, ⟨hperm, ?_⟩, gb_below sortW_grown hg hF.hN, .inr ⟨g, rfl, hg, hr.sorted (by rw [p1, hm]) hin2 hin⟩⟩
      rw [List.pairwise_iff_getElem]
      intro i j hi hj hij
      have hi' : i < d'.size := by simpa using hi
      have hj' : j < d'.size := by simpa using hj
      have h1 := hs i j (Nat.zero_le _) hij (by omega)
      have e1 : d'[i]! = d'.toList[i] := by simp [hi']
      have e2 : d'[j]! = d'.toList[j] := by simp [hj']
      rw [e1, e2, lt2_no] at h1
      obtain ⟨k1, k2⟩ := h1
      have h2 : ¬ ord2 xs la (d'.toList[j] % n) (d'.toList[i] % n) < 0 := of_decide_eq_false k1
      rw [Nat.mod_eq_of_lt (hin2 _ (List.getElem_mem _)), Nat.mod_eq_of_lt (hin2 _ (List.getElem_mem _))] at h2
      refine ⟨by omega, ?_⟩
      rcases k2 with k2 | k2
      · have h3 : ord2 xs la (d'.toList[i] % n) (d'.toList[j] % n) < 0 := of_decide_eq_true k2
        rw [Nat.mod_eq_of_lt (hin2 _ (List.getElem_mem _)), Nat.mod_eq_of_lt (hin2 _ (List.getElem_mem _))] at h3
        exact .inl h3
      · exact .inr k2
set_option maxRecDepth 100000 in
set_option maxHeartbeats 16000000 in
theorem order_any (lb lo n lc : Nat) (xs : List (Of × Oa)) (hxn : xs.length = n) (hn0 : 0 < n) (hn : n ≤ 1000) (w : World) (hx : Ofs w.heap.size w (some ⟨lb, lo, none⟩) xs) : Calls Try.prog 7 #[.slice (some ⟨lb, lo, none⟩) n lc] w (OrdPost w n xs) := by
  have HX : Hid (Ofs w.heap.size w (some ⟨lb, lo, none⟩) xs) := hx
  have HN : Hid (xs.length = n) := hxn
  clear hx hxn
  go_enter Try.func7, Try.ntmps7
  go_wp2_with fail
  refine (so_any w).mono ?_
  rintro e w1 ⟨sb1, rfl, g1, g2, g3, g4⟩
  have H1 : Hid (sb1 < w1.heap.size ∧ (∀ i (hi : i < [0, 1, 2].length), w1.cell? ⟨sb1, i, none⟩ = some (fvK [0, 1, 2][i])) ∧ Below w.heap.size w w1) := ⟨g2, g3, g4⟩
  clear g1 g2 g3 g4
  go_wp2_with fail
  refine (sc_any w1).mono ?_
  rintro e w2 ⟨sa, rfl, g1, g2, g3, g4⟩
  have H2 : Hid (sa < w2.heap.size ∧ (∀ i (hi : i < [3, 4].length), w2.cell? ⟨sa, i, none⟩ = some (fvK [3, 4][i])) ∧ Below w1.heap.size w1 w2) := ⟨g2, g3, g4⟩
  clear g1 g2 g3 g4
  go_wp2_with fail
  refine (sp_any w2).mono ?_
  rintro e w3 ⟨sp, rfl, g1, g2, g3, g4⟩
  have H3 : Hid (sp < w3.heap.size ∧ (∀ i (hi : i < [5, 6, 7].length), w3.cell? ⟨sp, i, none⟩ = some (fvK [5, 6, 7][i])) ∧ Below w2.heap.size w2 w3) := ⟨g2, g3, g4⟩
  clear g1 g2 g3 g4
  go_wp2_with fail
  obtain ⟨bs, hbs⟩ : ∃ y, w3.heap.size = y := ⟨_, rfl⟩
  obtain ⟨w4, hw4⟩ : ∃ y, w3.alloc (Obj.cells #[.slice (some ⟨sa, 0, none⟩) 2 2, .slice (some ⟨sp, 0, none⟩) 3 3] 42) = y := ⟨_, rfl⟩
  have h34 : Below w3.heap.size w3 w4 := by rw [← hw4]; exact (Below.refl _ _).alloc (Nat.le_refl _) _
  have hnew : w4.heap[bs]? = some (Obj.cells #[.slice (some ⟨sa, 0, none⟩) 2 2, .slice (some ⟨sp, 0, none⟩) 3 3] 42) := by rw [← hw4, ← hbs]; exact World.alloc_heap_new w3 _
  have k0 : w4.cell? ⟨bs, 0, none⟩ = some (.slice (some ⟨sa, 0, none⟩) 2 2) := by unfold World.cell?; rw [hnew]; rfl
  have k1 : w4.cell? ⟨bs, 1, none⟩ = some (.slice (some ⟨sp, 0, none⟩) 3 3) := by unfold World.cell?; rw [hnew]; rfl
  have hb23 : Below w2.heap.size w2 w4 := H3.out.2.2.trans (h34.mono H3.out.2.2.size)
  have HCC := concat_any sa sp bs 2 w4 k0 k1 (st_lst (ks := [3, 4]) (Nat.lt_of_lt_of_le H2.out.1 hb23.size) (by decide) (fun i hi => (World.cell?_of_block (w := w2) (hb23.block sa H2.out.1)).trans (H2.out.2.1 i hi))) (st_lst (ks := [5, 6, 7]) (Nat.lt_of_lt_of_le H3.out.1 h34.size) (by decide) (fun i hi => (World.cell?_of_block (w := w3) (h34.block sp H3.out.1)).trans (H3.out.2.1 i hi)))
  have H4 : Hid (sb1 < w4.heap.size ∧ (∀ i (hi : i < [0, 1, 2].length), w4.cell? ⟨sb1, i, none⟩ = some (fvK [0, 1, 2][i])) ∧ Below w.heap.size w w4) := by
    have hb14 : Below w1.heap.size w1 w4 := H2.out.2.2.trans (hb23.mono H2.out.2.2.size)
    exact ⟨Nat.lt_of_lt_of_le H1.out.1 hb14.size, fun i hi => (World.cell?_of_block (w := w1) (hb14.block sb1 H1.out.1)).trans (H1.out.2.1 i hi), H1.out.2.2.trans (hb14.mono H1.out.2.2.size)⟩
  rw [hbs, hw4]
  clear hbs hw4 h34 hnew k0 k1 hb23 H1 H2 H3
  refine HCC.mono ?_
  rintro e w5 ⟨sb2, c5, rfl, g1, g2, g3, g4⟩
  have H5 : Hid (sb1 < w5.heap.size ∧ (∀ i (hi : i < [0, 1, 2].length), w5.cell? ⟨sb1, i, none⟩ = some (fvK [0, 1, 2][i])) ∧ Below w.heap.size w w5 ∧ sb2 < w5.heap.size ∧ (∀ i (hi : i < [3, 4, 5, 6, 7].length), w5.cell? ⟨sb2, i, none⟩ = some (fvK [3, 4, 5, 6, 7][i]))) :=
    ⟨Nat.lt_of_lt_of_le H4.out.1 g4.size, fun i hi => (World.cell?_of_block (w := w4) (g4.block sb1 H4.out.1)).trans (H4.out.2.1 i hi), H4.out.2.2.trans (g4.mono H4.out.2.2.size), g2, g3⟩
  clear g1 g2 g3 g4 HCC H4
  go_wp2_with fail
  obtain ⟨bf, hbf⟩ : ∃ y, w5.heap.size = y := ⟨_, rfl⟩
  obtain ⟨w6, hw6⟩ : ∃ y, w5.alloc (Obj.cells #[.slice (some ⟨lb, lo, none⟩) n lc, .slice (some ⟨sb1, 0, none⟩) 3 3, .slice (some ⟨sb2, 0, none⟩) 5 c5] 48) = y := ⟨_, rfl⟩
  obtain ⟨N, hN⟩ : ∃ y, w6.heap.size = y := ⟨_, rfl⟩
  have h56 : Below w5.heap.size w5 w6 := by rw [← hw6]; exact (Below.refl _ _).alloc (Nat.le_refl _) _
  have HB6 : Hid (Below w.heap.size w w6) := H5.out.2.2.1.trans (h56.mono H5.out.2.2.1.size)
  have HS6 : Hid (SB FdK bf (fdL lb lo n lc sb1 sb2 c5) w6 ∧ bf < N) := by
    have h1 : SB FdK bf (fdL lb lo n lc sb1 sb2 c5) w6 := by rw [← hw6, ← hbf]; exact World.alloc_heap_new w5 _
    exact ⟨h1, by rw [← hN]; exact SB.lt h1⟩
  have HF6 : Hid (FdR N lb lo n lc sb1 sb2 c5 xs w6) := by
    refine ⟨HN.out, by omega, by rw [hN]; exact Nat.le_refl _, fun W hW => ?_⟩
    rw [← hN] at hW
    have hW5 : Below w5.heap.size w5 W := h56.trans (hW.mono h56.size)
    have hWw : Below w.heap.size w W := HB6.out.trans (hW.mono HB6.out.size)
    have hO := HX.out.bel hWw
    refine ⟨fun i hi => ?_, fun i hi => (World.cell?_of_block (w := w5) (hW5.block sb1 H5.out.1)).trans (H5.out.2.1 i hi), fun i hi => (World.cell?_of_block (w := w5) (hW5.block sb2 H5.out.2.2.2.1)).trans (H5.out.2.2.2.2 i hi)⟩
    obtain ⟨b', o', e', h7⟩ := hO.at i hi
    cases e'
    exact ⟨h7, (hO.rd W (Below.refl _ _)).2 _ (List.getElem_mem hi)⟩
  have HX6 : Hid (Ofs w6.heap.size w6 (some ⟨lb, lo, none⟩) xs) := (HX.out.bel HB6.out).mono HB6.out.size
  have HNN : Hid (w6.heap.size = N) := hN
  rw [hbf, hw6]
  clear hbf hw6 hN h56 H5
  obtain ⟨R, hR⟩ : ∃ y, rchP (atO xs) n = y := ⟨_, rfl⟩
  have HR : Hid (rchP (atO xs) n = R ∧ InN R n ∧ R.length ≤ n ∧ R.Nodup) := by
    rw [← hR]
    exact ⟨rfl, rch_in _ _, rch_len _ _, List.nodup_range.sublist List.filter_sublist⟩
  have HRE := reached_any (some ⟨lb, lo, none⟩) n lc xs HN.out (by omega) w6 HX6.out
  rw [hR] at HRE
  clear hR
  refine HRE.mono ?_
  rintro e w7 ⟨v7, rfl, ho7, hb7⟩
  clear HRE
  obtain ⟨a, c, rfl, -, hno, hso⟩ := ho7.form
  have HB7 : Hid (Below N w6 w7) := by show Below N w6 w7; rw [← HNN.out]; exact hb7
  obtain ⟨m, hm⟩ : ∃ y, R.length = y := ⟨_, rfl⟩
  have HM : Hid (R.length = m) := hm
  have HROW : Hid (m = 0 ∨ ∃ g, a = some ⟨g, 0, none⟩ ∧ N ≤ g ∧ RowN g R w7) := by
    cases a with
    | none => exact .inl (by rw [← hm]; exact (hno rfl).1)
    | some ad =>
      rcases ho7.row.2 with ⟨h1, -⟩ | ⟨g', c', cur, h1, h2, -⟩
      · cases h1
      · cases h1
        exact .inr ⟨g', rfl, by rw [← HNN.out]; exact h2, RowN.of_own ho7⟩
  rw [hm]
  clear ho7 hb7 hno hso hm
  have hms : m ≤ 1000 := by have h1 := HR.out.2.2.1; have h2 := HM.out; omega
  have HF7 : Hid (FdR N lb lo n lc sb1 sb2 c5 xs w7) := HF6.out.bel HB7.out
  have HS7 : Hid (SB FdK bf (fdL lb lo n lc sb1 sb2 c5) w7) := HS6.out.1.blk (HB7.out.block bf HS6.out.2)
  go_wp2_with fail
  refine (sort1_any N lb lo n lc sb1 sb2 c5 xs bf a m c R HM.out hms HR.out.2.1 w7 HF7.out HS7.out HS6.out.2 HROW.out).mono ?_
  rintro e w8 ⟨rfl, p1, hm1, ⟨hp1, hs1⟩, hb8, hr8⟩
  have HP1 : Hid (p1.length = m ∧ p1.Perm R ∧ p1.Pairwise (fun i j => 0 ≤ ord1 xs j i)) := ⟨hm1, hp1, hs1⟩
  have HIN : Hid (InN p1 n ∧ p1.Nodup) := ⟨fun x hx => HR.out.2.1 x (hp1.subset hx), hp1.nodup_iff.2 HR.out.2.2.2⟩
  have HR8 : Hid (m = 0 ∨ ∃ g, a = some ⟨g, 0, none⟩ ∧ N ≤ g ∧ RowN g p1 w8) := hr8
  have HB8 : Hid (Below N w7 w8) := hb8
  have HF8 : Hid (FdR N lb lo n lc sb1 sb2 c5 xs w8) := HF7.out.bel hb8
  have HS8 : Hid (SB FdK bf (fdL lb lo n lc sb1 sb2 c5) w8) := HS7.out.blk (hb8.block bf HS6.out.2)
  have HL8 : Hid (Lst EN w8 a p1) := by
    rcases hr8 with h0 | ⟨g, rfl, -, h1⟩
    · have : p1 = [] := List.length_eq_zero_iff.1 (by rw [hm1, h0])
      subst this
      exact ⟨by simp, fun i hi => absurd hi (by simp)⟩
    · exact h1.lst (by rw [hm1]; omega)
  clear hm1 hp1 hs1 hb8 hr8 HROW HF7 HS7 HF6
  go_wp2_with (refine list_sload FdK rfl _ rfl (b := bf) (cs := fdL lb lo n lc sb1 sb2 c5) rfl HS8.out rfl ?_)
  refine (last_any N lb lo n lc sb1 sb2 c5 xs a m c p1 HP1.out.1 HIN.out.1 HIN.out.2 w8 HF8.out HL8.out).mono ?_
  rintro e w9 ⟨g5, rfl, l1, l2, l3, l4⟩
  have HL9 : Hid (w8.heap.size ≤ g5 ∧ g5 < w9.heap.size ∧ Below w8.heap.size w8 w9 ∧ ∀ i, i < n → w9.cell? ⟨g5, i, none⟩ = some (.int .i64 (laP xs p1 m i : Int))) := ⟨l1, l2, l3, l4⟩
  clear l1 l2 l3 l4
  go_wp2_with fail
  obtain ⟨b5, hb5⟩ : ∃ y, w9.heap.size = y := ⟨_, rfl⟩
  obtain ⟨w10, hw10⟩ : ∃ y, w9.alloc (Obj.cells #[.slice (some ⟨g5, 0, none⟩) n n] 24) = y := ⟨_, rfl⟩
  have h910 : Below w9.heap.size w9 w10 := by rw [← hw10]; exact (Below.refl _ _).alloc (Nat.le_refl _) _
  have HC10 : Hid (w10.cell? ⟨b5, 0, none⟩ = some (.slice (some ⟨g5, 0, none⟩) n n)) := by
    have h1 : w10.heap[b5]? = some (Obj.cells #[.slice (some ⟨g5, 0, none⟩) n n] 24) := by rw [← hw10, ← hb5]; exact World.alloc_heap_new w9 _
    show w10.cell? _ = _
    unfold World.cell?
    rw [h1]
    rfl
  have HB10 : Hid (Below w8.heap.size w8 w10) := HL9.out.2.2.1.trans (h910.mono HL9.out.2.2.1.size)
  have HL10 : Hid (∀ i, i < n → w10.cell? ⟨g5, i, none⟩ = some (.int .i64 (laP xs p1 m i : Int))) := fun i hi => (World.cell?_of_block (w := w9) (h910.block g5 HL9.out.2.1)).trans (HL9.out.2.2.2 i hi)
  have HR10 : Hid (m = 0 ∨ ∃ g, a = some ⟨g, 0, none⟩ ∧ N ≤ g ∧ RowN g p1 w10 ∧ g ≠ b5 ∧ g ≠ g5) := by
    rcases HR8.out with h0 | ⟨g, h1, h2, h3⟩
    · exact .inl h0
    · refine .inr ⟨g, h1, h2, h3.bel HB10.out, ?_, ?_⟩
      · have k1 := h3.lt
        have k2 := HL9.out.2.2.1.size
        omega
      · have k1 := h3.lt
        have k2 := HL9.out.1
        omega
  have HN8 : Hid (N ≤ w8.heap.size) := HF8.out.hN
  have HF10 : Hid (FdR N lb lo n lc sb1 sb2 c5 xs w10) := HF8.out.bel (HB10.out.mono HN8.out)
  have HS10 : Hid (SB FdK bf (fdL lb lo n lc sb1 sb2 c5) w10) := HS8.out.blk (HB10.out.block bf (Nat.lt_of_lt_of_le HS6.out.2 HN8.out))
  rw [hb5, hw10]
  clear hb5 hw10 h910 HL8 HS8 HF8
  refine (sort2_any N lb lo n lc sb1 sb2 c5 xs bf b5 g5 n (laP xs p1 m) (fun i _ => laP_lt HIN.out.1 hn0 m (by rw [HP1.out.1]; exact Nat.le_refl _) i) a m c p1 HP1.out.1 hms HIN.out.1 HIN.out.2 w10 HF10.out HS10.out HS6.out.2 HR10.out HC10.out HL10.out).mono ?_
  rintro e w11 ⟨rfl, ps, hm2, ⟨hp2, hs2⟩, hb11, hr11⟩
  have HE : Hid (OrdPost w n xs (.returned (.slice a m c)) w11) := by
    have hw6N : w.heap.size ≤ N := by rw [← HNN.out]; exact HB6.out.size
    have hBB : Below w.heap.size w w11 := HB6.out.trans ((HB7.out.trans (HB8.out.trans ((HB10.out.mono HN8.out).trans hb11))).mono hw6N)
    refine ⟨a, m, c, ps, rfl, hm2, ⟨p1, by rw [HR.out.1]; exact HP1.out.2.1, HP1.out.2.2, hp2, ?_⟩, hBB, ?_⟩
    · rw [HP1.out.1]; exact hs2
    · rcases hr11 with h0 | ⟨g, h1, h2, h3⟩
      · exact .inl h0
      · exact .inr ⟨g, h1, by omega, h3⟩
  clear hm2 hp2 hs2 hb11 hr11
  go_wp2_with fail
  go_ret
  exact HE.out
end Go.Proofs.Ytkahjibdmhaglaa.Ch
