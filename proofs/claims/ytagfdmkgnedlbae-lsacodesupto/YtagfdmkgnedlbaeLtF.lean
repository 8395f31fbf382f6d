/- The document's lsaAt: what it answers. -/
import Derived.Test.YtagfdmkgnedlbaeLtE
namespace Go.Proofs.Ytagfdmkgnedlbae.Ls
open Go.ChangeShapes Go.WideShapes Go.ChangeAt Go.RowKit Go.Joins Go.Proofs.Ytagfdmkgnedlbae.PM Go.Proofs.Ytagfdmkgnedlbae.Ask
set_option linter.unusedVariables false

set_option maxRecDepth 100000 in
set_option maxHeartbeats 32000000 in
theorem rat_any (va : Option Addr) (cap : Nat) (bs : List Nat) (L : Nat) (hL : bs.length = L) (hl40 : L ≤ 4096) (a : Nat) (h28 : a + 28 ≤ L) (hfit : a + 28 + 8 * num ((bs.drop (a + 1)).take 1) + 7 * num ((bs.drop (a + 2)).take 1) ≤ L) (w : World) (hx : By w va bs) (x : Lsa) (r' : Rst) (hd : decL (bs.drop a, false) = (x, r')) :
    Calls Try.prog 65 #[.slice va L cap, .int .i64 (a : Int)] w fun e w' => ∃ la lc sa sc, e = .returned (lsaV x la lc sa sc) ∧ Below w.heap.size w w' ∧ OwnT (w.heap.size + 2) 54 .i64 w' (.slice la x.links.length lc) x.links ∧ OwnT (w.heap.size + 2) 56 .u32 w' (.slice sa x.stubs.length sc) x.stubs ∧ (∀ g, (Value.slice la x.links.length lc).ownBlock = some g → ¬ (Value.slice sa x.stubs.length sc).ownBlock = some g) ∧ In32 x.pa ∧ S32 x.stubs := by
  have hu8 : ∀ d ∈ bs, d < 256 := hx.u8
  rw [decL_at hL h28] at hd
  have hnlt : ∀ o n, o + n ≤ 28 → num ((bs.drop (a + o)).take n) < 256 ^ n := fun o n ho => num_lt (fun d hd => hu8 d (List.mem_of_mem_drop hd)) n (by rw [List.length_drop]; omega)
  have hW : ∃ kind nl ns pn area age origin seq pa cost tag : Nat, ∃ LL S : List (Int × Int × Int) × Rst, num ((bs.drop a).take 1) = kind ∧ num ((bs.drop (a + 1)).take 1) = nl ∧ num ((bs.drop (a + 2)).take 1) = ns ∧ num ((bs.drop (a + 3)).take 1) = pn ∧ num ((bs.drop (a + 4)).take 2) = area ∧ num ((bs.drop (a + 6)).take 2) = age ∧ num ((bs.drop (a + 8)).take 4) = origin ∧ num ((bs.drop (a + 12)).take 4) = seq ∧ num ((bs.drop (a + 16)).take 4) = pa ∧ num ((bs.drop (a + 20)).take 4) = cost ∧ num ((bs.drop (a + 24)).take 4) = tag ∧ decN decLk nl (bs.drop (a + 28), false) = LL ∧ decN decSt ns LL.2 = S ∧ x = ⟨(kind : Int), (area : Int), (origin : Int), (pa : Int), (pn : Int), (seq : Int), (age : Int), (cost : Int), (tag : Int), LL.1, S.1⟩ ∧ r' = S.2 := by
    injection hd with h1 h2
    exact ⟨_, _, _, _, _, _, _, _, _, _, _, _, _, rfl, rfl, rfl, rfl, rfl, rfl, rfl, rfl, rfl, rfl, rfl, rfl, rfl, h1.symm, h2.symm⟩
  obtain ⟨kind, nl, ns, pn, area, age, origin, seq, pa, cost, tag, LL, S, e0, e1, e2, e3, e4, e5, e6, e7, e8, e9, e10, hLL, hS, rfl, rfl⟩ := hW
  dsimp only
  have hb0 : kind < 256 := by rw [← e0]; exact num_lt (fun d hd => hu8 d (List.mem_of_mem_drop hd)) 1 (by rw [List.length_drop]; omega)
  have E0 : Hid (((num ((bs.drop a).take 1) : Nat) : Int) = (kind : Int)) := by rw [e0]; exact rfl
  have hb1 : nl < 256 := by rw [← e1]; exact hnlt 1 1 (by decide)
  have E1 : Hid (((num ((bs.drop (a + 1)).take 1) : Nat) : Int) = (nl : Int)) := by rw [e1]; exact rfl
  have hb2 : ns < 256 := by rw [← e2]; exact hnlt 2 1 (by decide)
  have E2 : Hid (((num ((bs.drop (a + 2)).take 1) : Nat) : Int) = (ns : Int)) := by rw [e2]; exact rfl
  have hb3 : pn < 256 := by rw [← e3]; exact hnlt 3 1 (by decide)
  have E3 : Hid (((num ((bs.drop (a + 3)).take 1) : Nat) : Int) = (pn : Int)) := by rw [e3]; exact rfl
  have hb4 : area < 65536 := by rw [← e4]; exact hnlt 4 2 (by decide)
  have E4 : Hid (((num ((bs.drop (a + 4)).take 2) : Nat) : Int) = (area : Int)) := by rw [e4]; exact rfl
  have hb5 : age < 65536 := by rw [← e5]; exact hnlt 6 2 (by decide)
  have E5 : Hid (((num ((bs.drop (a + 6)).take 2) : Nat) : Int) = (age : Int)) := by rw [e5]; exact rfl
  have hb6 : origin < 4294967296 := by rw [← e6]; exact hnlt 8 4 (by decide)
  have E6 : Hid (((num ((bs.drop (a + 8)).take 4) : Nat) : Int) = (origin : Int)) := by rw [e6]; exact rfl
  have hb7 : seq < 4294967296 := by rw [← e7]; exact hnlt 12 4 (by decide)
  have E7 : Hid (((num ((bs.drop (a + 12)).take 4) : Nat) : Int) = (seq : Int)) := by rw [e7]; exact rfl
  have hb8 : pa < 4294967296 := by rw [← e8]; exact hnlt 16 4 (by decide)
  have E8 : Hid (((num ((bs.drop (a + 16)).take 4) : Nat) : Int) = (pa : Int)) := by rw [e8]; exact rfl
  have hb9 : cost < 4294967296 := by rw [← e9]; exact hnlt 20 4 (by decide)
  have E9 : Hid (((num ((bs.drop (a + 20)).take 4) : Nat) : Int) = (cost : Int)) := by rw [e9]; exact rfl
  have hb10 : tag < 4294967296 := by rw [← e10]; exact hnlt 24 4 (by decide)
  have E10 : Hid (((num ((bs.drop (a + 24)).take 4) : Nat) : Int) = (tag : Int)) := by rw [e10]; exact rfl
  have HX : Hid (By w va bs) := hx
  have HLX : Hid (bs.length = L) := hL
  have HLL : Hid (decN decLk nl (bs.drop (a + 28), false) = LL) := hLL
  have HS : Hid (decN decSt ns LL.2 = S) := hS
  rw [e1, e2] at hfit
  have k0 : bs[a]'(by omega) = kind := by rw [← num_one (by omega)]; exact e0
  have k1 : bs[a + 1]'(by omega) = nl := by rw [← num_one (by omega)]; exact e1
  have k2 : bs[a + 2]'(by omega) = ns := by rw [← num_one (by omega)]; exact e2
  have k3 : bs[a + 3]'(by omega) = pn := by rw [← num_one (by omega)]; exact e3
  obtain ⟨b, o, hva, hbl, -⟩ := hx.cells 0 (by omega)
  subst hva
  have HC : Hid (∀ W, Below w.heap.size w W → W.cell? ⟨b, o + a, none⟩ = some (.int .u8 (kind : Int)) ∧ W.cell? ⟨b, o + (a + 1), none⟩ = some (.int .u8 (nl : Int)) ∧ W.cell? ⟨b, o + (a + 2), none⟩ = some (.int .u8 (ns : Int)) ∧ W.cell? ⟨b, o + (a + 3), none⟩ = some (.int .u8 (pn : Int))) := fun W hW => by
    have hb := HX.out.bel hW
    have g : ∀ i (hi : i < bs.length), W.cell? ⟨b, o + i, none⟩ = some (.int .u8 (bs[i] : Int)) := fun i hi => by
      obtain ⟨b1, o1, e, -, hc⟩ := hb.cells i hi
      cases e
      exact hc
    exact ⟨by rw [g a (by omega), k0], by rw [g (a + 1) (by omega), k1], by rw [g (a + 2) (by omega), k2], by rw [g (a + 3) (by omega), k3]⟩
  have HNUM : Hid (∀ W, Below w.heap.size w W → ∀ (p n : Nat) (pI nI r : Int), ((p : Nat) : Int) = pI → ((n : Nat) : Int) = nI → n ≤ 7 → p + n ≤ L → ((num ((bs.drop p).take n) : Nat) : Int) = r → Calls Try.prog 64 #[.slice (some ⟨b, o, none⟩) L cap, .int .i64 pI, .int .i64 nI] W fun e w' => e = .returned (.int .i64 r) ∧ w' = W) := fun W hW p n pI nI r h1 h2 h3 h4 h5 => rnumr_any _ cap bs L HLX.out p n pI nI h1 h2 h3 h4 W (HX.out.bel hW) r h5
  clear hL hx hd hLL hS hu8 hnlt k0 k1 k2 k3 e0 e1 e2 e3 e4 e5 e6 e7 e8 e9 e10
  go_enter Try.func65, Try.ntmps65
  go_upto_region 1 with fail
  obtain ⟨w0, hw0⟩ : ∃ w0, w.alloc (Obj.cells #[.int .i64 0, .int .i64 0, .int .i64 0, .int .u32 0, .int .i64 0, .int .i64 0, .int .i64 0, .slice none 0 0, .slice none 0 0, .int .i64 0, .int .i64 0] 28) = w0 := ⟨_, rfl⟩
  have hbx := lbox_new hw0
  have HZ0 : Hid (LBox w.heap.size 0 0 0 0 0 0 0 (.slice none 0 0) (.slice none 0 0) 0 0 w0) := hbx.1
  have HF0 : Hid (∀ i, w0.frozen? ⟨w.heap.size, i, none⟩ = false) := fun i => by rw [← hw0]; simp
  have hs0 : w0.heap.size = w.heap.size + 1 := by rw [← hw0]; simp
  have HB0 : Hid (Below w.heap.size w w0) := hbx.2
  rw [hw0]
  clear hw0 hbx
  have HBD : Hid (Below w.heap.size w w0.drew) := HB0.out.trans ((drew_bel w0).mono HB0.out.size)
  have hq4 : IntKind.i64.wrap ((a : Int) + 4) = ((a + 4 : Nat) : Int) := by rw [IntWalk.i64_in _ (by omega)]; omega
  have hq6 : IntKind.i64.wrap ((a : Int) + 6) = ((a + 6 : Nat) : Int) := by rw [IntWalk.i64_in _ (by omega)]; omega
  have hq8 : IntKind.i64.wrap ((a : Int) + 8) = ((a + 8 : Nat) : Int) := by rw [IntWalk.i64_in _ (by omega)]; omega
  have hq12 : IntKind.i64.wrap ((a : Int) + 12) = ((a + 12 : Nat) : Int) := by rw [IntWalk.i64_in _ (by omega)]; omega
  have hwk : IntKind.i64.wrap (kind : Int) = (kind : Int) := by rw [IntWalk.i64_in _ (by omega)]
  have hwpn : IntKind.i64.wrap (pn : Int) = (pn : Int) := by rw [IntWalk.i64_in _ (by omega)]
  have hwnl : IntKind.i64.wrap (nl : Int) = (nl : Int) := by rw [IntWalk.i64_in _ (by omega)]
  have hwns : IntKind.i64.wrap (ns : Int) = (ns : Int) := by rw [IntWalk.i64_in _ (by omega)]
  have ha0 : (0 : Int) ≤ a := by omega
  have haL : (a : Int) < L := by omega
  go_cut [5] from 10 to 119 (fun p wx => p = .pointer (some ⟨w0.heap.size, 0, none⟩) ∧ wx = w0.drew.alloc (Obj.cells #[.int .i64 (kind : Int), .int .i64 (area : Int), .int .i64 (origin : Int), .int .u32 0, .int .i64 0, .int .i64 (seq : Int), .int .i64 (age : Int), .slice none 0 0, .slice none 0 0, .int .i64 0, .int .i64 0] 28))
  case first =>
    refine wp_region_held_drew (S := fun W => Below w.heap.size w W) (by kernel_rfl) (HB0.out.trans ((drew_bel w0).mono HB0.out.size)) (fun hHeld => ?_)
    refine wpAnyH_take (i := 0) (v := ?_) rfl (by kernel_rfl) (by kernel_rfl) (by kernel_rfl) (fun _ _ _ h => h) (Or.inl ⟨by rfl, ?_⟩) (by assumption) ?_
    case refine_2 => intro W hSw; obtain ⟨j0, j1, j2, j3⟩ := HC.out W hSw; go_simp; try rfl
    try simp only [Act.put, List.getElem_toArray, List.getElem_cons_zero, List.setIfInBounds_toArray, List.set_cons_zero, List.set_cons_succ]
    refine wpAnyH_take (i := 1) (v := ?_) rfl (by kernel_rfl) (by kernel_rfl) (by kernel_rfl) (fun _ _ _ h => h) (Or.inl ⟨by rfl, ?_⟩) (by assumption) ?_
    case refine_2 => intro W hSw; obtain ⟨j0, j1, j2, j3⟩ := HC.out W hSw; go_simp; try rfl
    try simp only [Act.put, List.getElem_toArray, List.getElem_cons_zero, List.getElem_cons_succ, List.setIfInBounds_toArray, List.set_cons_zero, List.set_cons_succ]
    refine wpAnyH_take (i := 2) (v := ?_) rfl (by kernel_rfl) (by kernel_rfl) (by kernel_rfl) (fun _ _ _ h => h) (Or.inl ⟨by rfl, ?_⟩) (by assumption) ?_
    case refine_2 => intro W hSw; obtain ⟨j0, j1, j2, j3⟩ := HC.out W hSw; go_simp; try rfl
    try simp only [Act.put, List.getElem_toArray, List.getElem_cons_zero, List.getElem_cons_succ, List.setIfInBounds_toArray, List.set_cons_zero, List.set_cons_succ]
    refine wpAnyH_take (i := 3) (v := ?_) rfl (by kernel_rfl) (by kernel_rfl) (by kernel_rfl) (fun _ _ _ h => h) (Or.inl ⟨by rfl, ?_⟩) (by assumption) ?_
    case refine_2 => intro W hSw; obtain ⟨j0, j1, j2, j3⟩ := HC.out W hSw; go_simp; try rfl
    try simp only [Act.put, List.getElem_toArray, List.getElem_cons_zero, List.getElem_cons_succ, List.setIfInBounds_toArray, List.set_cons_zero, List.set_cons_succ]
    refine wpAnyH_take (i := 4) (v := ?_) rfl (by kernel_rfl) (by kernel_rfl) (by kernel_rfl) (fun _ _ _ h => h) (Or.inl ⟨by rfl, ?_⟩) (by assumption) ?_
    case refine_2 => intro W hSw; obtain ⟨j0, j1, j2, j3⟩ := HC.out W hSw; go_simp; try rfl
    try simp only [Act.put, List.getElem_toArray, List.getElem_cons_zero, List.getElem_cons_succ, List.setIfInBounds_toArray, List.set_cons_zero, List.set_cons_succ]
    refine wpAnyH_take (i := 5) (v := ?_) rfl (by kernel_rfl) (by kernel_rfl) (by kernel_rfl) (fun _ _ _ h => h) (Or.inl ⟨by rfl, ?_⟩) (by assumption) ?_
    case refine_2 => intro W hSw; obtain ⟨j0, j1, j2, j3⟩ := HC.out W hSw; go_simp; try rfl
    try simp only [Act.put, List.getElem_toArray, List.getElem_cons_zero, List.getElem_cons_succ, List.setIfInBounds_toArray, List.set_cons_zero, List.set_cons_succ]
    refine wpAnyH_take (i := 6) (v := ?_) rfl (by kernel_rfl) (by kernel_rfl) (by kernel_rfl) (fun _ _ _ h => h) (Or.inl ⟨by rfl, ?_⟩) (by assumption) ?_
    case refine_2 => intro W hSw; obtain ⟨j0, j1, j2, j3⟩ := HC.out W hSw; go_simp; try rfl
    try simp only [Act.put, List.getElem_toArray, List.getElem_cons_zero, List.getElem_cons_succ, List.setIfInBounds_toArray, List.set_cons_zero, List.set_cons_succ]
    refine wpAnyH_take (i := 7) (v := ?_) rfl (by kernel_rfl) (by kernel_rfl) (by kernel_rfl) (fun _ _ _ h => h) (Or.inl ⟨by rfl, ?_⟩) (by assumption) ?_
    case refine_2 => intro W hSw; obtain ⟨j0, j1, j2, j3⟩ := HC.out W hSw; go_simp; try rfl
    try simp only [Act.put, List.getElem_toArray, List.getElem_cons_zero, List.getElem_cons_succ, List.setIfInBounds_toArray, List.set_cons_zero, List.set_cons_succ]
    refine wpAnyH_take (i := 9) (v := ?_) rfl (by kernel_rfl) (by kernel_rfl) (by kernel_rfl) (fun _ _ _ h => h) (Or.inl ⟨by rfl, ?_⟩) (by assumption) ?_
    case refine_2 => intro W hSw; obtain ⟨j0, j1, j2, j3⟩ := HC.out W hSw; go_simp; try rfl
    try simp only [Act.put, List.getElem_toArray, List.getElem_cons_zero, List.getElem_cons_succ, List.setIfInBounds_toArray, List.set_cons_zero, List.set_cons_succ]
    refine wpAnyH_take (i := 10) (v := ?_) rfl (by kernel_rfl) (by kernel_rfl) (by kernel_rfl) (fun _ _ _ h => h) (Or.inl ⟨by rfl, ?_⟩) (by assumption) ?_
    case refine_2 => intro W hSw; obtain ⟨j0, j1, j2, j3⟩ := HC.out W hSw; go_simp; try rfl
    try simp only [Act.put, List.getElem_toArray, List.getElem_cons_zero, List.getElem_cons_succ, List.setIfInBounds_toArray, List.set_cons_zero, List.set_cons_succ]
    refine wpAnyH_take (i := 11) (v := ?_) rfl (by kernel_rfl) (by kernel_rfl) (by kernel_rfl) (fun _ _ _ h => h) (Or.inl ⟨by rfl, ?_⟩) (by assumption) ?_
    case refine_2 => intro W hSw; obtain ⟨j0, j1, j2, j3⟩ := HC.out W hSw; go_simp; try rfl
    try simp only [Act.put, List.getElem_toArray, List.getElem_cons_zero, List.getElem_cons_succ, List.setIfInBounds_toArray, List.set_cons_zero, List.set_cons_succ]
    refine wpAnyH_take (i := 13) (v := ?_) rfl (by kernel_rfl) (by kernel_rfl) (by kernel_rfl) (fun _ _ _ h => h) (Or.inl ⟨by rfl, ?_⟩) (by assumption) ?_
    case refine_2 => intro W hSw; obtain ⟨j0, j1, j2, j3⟩ := HC.out W hSw; go_simp; try rfl
    try simp only [Act.put, List.getElem_toArray, List.getElem_cons_zero, List.getElem_cons_succ, List.setIfInBounds_toArray, List.set_cons_zero, List.set_cons_succ]
    refine wpAnyH_take (i := 14) (v := ?_) rfl (by kernel_rfl) (by kernel_rfl) (by kernel_rfl) (fun _ _ _ h => h) (Or.inl ⟨by rfl, ?_⟩) (by assumption) ?_
    case refine_2 => intro W hSw; obtain ⟨j0, j1, j2, j3⟩ := HC.out W hSw; go_simp; try rfl
    try simp only [Act.put, List.getElem_toArray, List.getElem_cons_zero, List.getElem_cons_succ, List.setIfInBounds_toArray, List.set_cons_zero, List.set_cons_succ]
    refine wpAnyH_take (i := 15) (v := ?_) rfl (by kernel_rfl) (by kernel_rfl) (by kernel_rfl) (fun _ _ _ h => h) (Or.inl ⟨by rfl, ?_⟩) (by assumption) ?_
    case refine_2 => intro W hSw; obtain ⟨j0, j1, j2, j3⟩ := HC.out W hSw; go_simp; try rfl
    try simp only [Act.put, List.getElem_toArray, List.getElem_cons_zero, List.getElem_cons_succ, List.setIfInBounds_toArray, List.set_cons_zero, List.set_cons_succ]
    refine wpAnyH_take (i := 17) (v := ?_) rfl (by kernel_rfl) (by kernel_rfl) (by kernel_rfl) (fun _ _ _ h => h) (Or.inl ⟨by rfl, ?_⟩) (by assumption) ?_
    case refine_2 => intro W hSw; obtain ⟨j0, j1, j2, j3⟩ := HC.out W hSw; go_simp; try rfl
    try simp only [Act.put, List.getElem_toArray, List.getElem_cons_zero, List.getElem_cons_succ, List.setIfInBounds_toArray, List.set_cons_zero, List.set_cons_succ]
    refine wpAnyH_take (i := 18) (v := ?_) rfl (by kernel_rfl) (by kernel_rfl) (by kernel_rfl) (fun _ _ _ h => h) (Or.inl ⟨by rfl, ?_⟩) (by assumption) ?_
    case refine_2 => intro W hSw; obtain ⟨j0, j1, j2, j3⟩ := HC.out W hSw; go_simp; try rfl
    try simp only [Act.put, List.getElem_toArray, List.getElem_cons_zero, List.getElem_cons_succ, List.setIfInBounds_toArray, List.set_cons_zero, List.set_cons_succ]
    refine wpAnyH_take (i := 19) (v := ?_) rfl (by kernel_rfl) (by kernel_rfl) (by kernel_rfl) (fun _ _ _ h => h) (Or.inl ⟨by rfl, ?_⟩) (by assumption) ?_
    case refine_2 => intro W hSw; obtain ⟨j0, j1, j2, j3⟩ := HC.out W hSw; go_simp; try rfl
    try simp only [Act.put, List.getElem_toArray, List.getElem_cons_zero, List.getElem_cons_succ, List.setIfInBounds_toArray, List.set_cons_zero, List.set_cons_succ]
    refine wpAnyH_ready (rs := [8, 22]) (by kernel_rfl) (by simp) ?_
    refine AllReadyH.cons rfl (fun K hK => ?_) (AllReadyH.cons rfl (fun K hK => ?_) AllReadyH.nil)
    · go_simp
      refine (HNUM.out _ hHeld (a + 4) 2 _ 2 (area : Int) rfl rfl (by decide) (by omega) E4.out).mono ?_
      rintro e w5 ⟨rfl, hw5⟩
      rw [hw5]
      clear hw5 w5
      go_wp2_with fail
      refine hK.out _ _ hHeld (fun hHeld => ?_)
      clear hK K
      try simp only [Act.put, List.getElem_toArray, List.getElem_cons_zero, List.getElem_cons_succ, List.setIfInBounds_toArray, List.set_cons_zero, List.set_cons_succ]
      refine wpAnyH_ready (rs := [12, 22]) (by kernel_rfl) (by simp) ?_
      refine AllReadyH.cons rfl (fun K hK => ?_) (AllReadyH.cons rfl (fun K hK => ?_) AllReadyH.nil)
      · go_simp
        refine (HNUM.out _ hHeld (a + 6) 2 _ 2 (age : Int) rfl rfl (by decide) (by omega) E5.out).mono ?_
        rintro e w5 ⟨rfl, hw5⟩
        rw [hw5]
        clear hw5 w5
        go_wp2_with fail
        refine hK.out _ _ hHeld (fun hHeld => ?_)
        clear hK K
        try simp only [Act.put, List.getElem_toArray, List.getElem_cons_zero, List.getElem_cons_succ, List.setIfInBounds_toArray, List.set_cons_zero, List.set_cons_succ]
        refine wpAnyH_ready (rs := [16, 22]) (by kernel_rfl) (by simp) ?_
        refine AllReadyH.cons rfl (fun K hK => ?_) (AllReadyH.cons rfl (fun K hK => ?_) AllReadyH.nil)
        · go_simp
          refine (HNUM.out _ hHeld (a + 8) 4 _ 4 (origin : Int) rfl rfl (by decide) (by omega) E6.out).mono ?_
          rintro e w5 ⟨rfl, hw5⟩
          rw [hw5]
          clear hw5 w5
          go_wp2_with fail
          refine hK.out _ _ hHeld (fun hHeld => ?_)
          clear hK K
          try simp only [Act.put, List.getElem_toArray, List.getElem_cons_zero, List.getElem_cons_succ, List.setIfInBounds_toArray, List.set_cons_zero, List.set_cons_succ]
          refine wpAnyH_ready (rs := [20, 22]) (by kernel_rfl) (by simp) ?_
          refine AllReadyH.cons rfl (fun K hK => ?_) (AllReadyH.cons rfl (fun K hK => ?_) AllReadyH.nil)
          · go_simp
            refine (HNUM.out _ hHeld (a + 12) 4 _ 4 (seq : Int) rfl rfl (by decide) (by omega) E7.out).mono ?_
            rintro e w5 ⟨rfl, hw5⟩
            rw [hw5]
            clear hw5 w5
            go_wp2_with fail
            refine hK.out _ _ hHeld (fun hHeld => ?_)
            clear hK K
            try simp only [Act.put, List.getElem_toArray, List.getElem_cons_zero, List.getElem_cons_succ, List.setIfInBounds_toArray, List.set_cons_zero, List.set_cons_succ]
            refine wpAnyH_take (i := 21) (v := ?_) rfl (by kernel_rfl) (by kernel_rfl) (by kernel_rfl) (fun _ _ _ h => h) (Or.inl ⟨by rfl, ?_⟩) (by assumption) ?_
            case refine_2 => intro W hSw; go_simp; try rfl
            try simp only [Act.put, List.getElem_toArray, List.getElem_cons_zero, List.getElem_cons_succ, List.setIfInBounds_toArray, List.set_cons_zero, List.set_cons_succ]
            refine wpAnyH_ready (rs := [22]) (by kernel_rfl) (by simp) ?_
            refine AllReadyH.cons rfl (fun K hK => ?_) AllReadyH.nil
            go_simp
            refine hK.out _ _ (hHeld.alloc hHeld.size _) (fun hHeld => ?_)
            clear hK K
            try simp only [Act.put, List.getElem_toArray, List.getElem_cons_zero, List.getElem_cons_succ, List.setIfInBounds_toArray, List.set_cons_zero, List.set_cons_succ]
            refine wpAnyH_ready (rs := [23]) (by kernel_rfl) (by simp) ?_
            refine AllReadyH.cons rfl (fun K hK => ?_) AllReadyH.nil
            go_simp
            refine hK.out _ _ (HBD.out.alloc HBD.out.size _) (fun hHeld => ?_)
            clear hK K
            try simp only [Act.put, List.getElem_toArray, List.getElem_cons_zero, List.getElem_cons_succ, List.setIfInBounds_toArray, List.set_cons_zero, List.set_cons_succ]
            refine wpAnyH_done (by kernel_rfl) ?_ _
            go_wp2_with fail
            go_meet
            exact ⟨by rw [hs0], rfl⟩
          · go_simp
            refine hK.out _ _ (hHeld.alloc hHeld.size _) (fun hHeld => ?_)
            clear hK K
            try simp only [Act.put, List.getElem_toArray, List.getElem_cons_zero, List.getElem_cons_succ, List.setIfInBounds_toArray, List.set_cons_zero, List.set_cons_succ]
            refine wpAnyH_ready (rs := [20]) (by kernel_rfl) (by simp) ?_
            refine AllReadyH.cons rfl (fun K hK => ?_) AllReadyH.nil
            go_simp
            refine (HNUM.out _ hHeld (a + 12) 4 _ 4 (seq : Int) rfl rfl (by decide) (by omega) E7.out).mono ?_
            rintro e w5 ⟨rfl, hw5⟩
            rw [hw5]
            clear hw5 w5
            go_wp2_with fail
            refine hK.out _ _ hHeld (fun hHeld => ?_)
            clear hK K
            try simp only [Act.put, List.getElem_toArray, List.getElem_cons_zero, List.getElem_cons_succ, List.setIfInBounds_toArray, List.set_cons_zero, List.set_cons_succ]
            refine wpAnyH_take (i := 21) (v := ?_) rfl (by kernel_rfl) (by kernel_rfl) (by kernel_rfl) (fun _ _ _ h => h) (Or.inl ⟨by rfl, ?_⟩) (by assumption) ?_
            case refine_2 => intro W hSw; go_simp; try rfl
            try simp only [Act.put, List.getElem_toArray, List.getElem_cons_zero, List.getElem_cons_succ, List.setIfInBounds_toArray, List.set_cons_zero, List.set_cons_succ]
            refine wpAnyH_ready (rs := [23]) (by kernel_rfl) (by simp) ?_
            refine AllReadyH.cons rfl (fun K hK => ?_) AllReadyH.nil
            go_simp
            refine hK.out _ _ (HBD.out.alloc HBD.out.size _) (fun hHeld => ?_)
            clear hK K
            try simp only [Act.put, List.getElem_toArray, List.getElem_cons_zero, List.getElem_cons_succ, List.setIfInBounds_toArray, List.set_cons_zero, List.set_cons_succ]
            refine wpAnyH_done (by kernel_rfl) ?_ _
            go_wp2_with fail
            go_meet
            exact ⟨by rw [hs0], rfl⟩
        · go_simp
          refine hK.out _ _ (hHeld.alloc hHeld.size _) (fun hHeld => ?_)
          clear hK K
          try simp only [Act.put, List.getElem_toArray, List.getElem_cons_zero, List.getElem_cons_succ, List.setIfInBounds_toArray, List.set_cons_zero, List.set_cons_succ]
          refine wpAnyH_ready (rs := [16]) (by kernel_rfl) (by simp) ?_
          refine AllReadyH.cons rfl (fun K hK => ?_) AllReadyH.nil
          go_simp
          refine (HNUM.out _ hHeld (a + 8) 4 _ 4 (origin : Int) rfl rfl (by decide) (by omega) E6.out).mono ?_
          rintro e w5 ⟨rfl, hw5⟩
          rw [hw5]
          clear hw5 w5
          go_wp2_with fail
          refine hK.out _ _ hHeld (fun hHeld => ?_)
          clear hK K
          try simp only [Act.put, List.getElem_toArray, List.getElem_cons_zero, List.getElem_cons_succ, List.setIfInBounds_toArray, List.set_cons_zero, List.set_cons_succ]
          refine wpAnyH_ready (rs := [20]) (by kernel_rfl) (by simp) ?_
          refine AllReadyH.cons rfl (fun K hK => ?_) AllReadyH.nil
          go_simp
          refine (HNUM.out _ hHeld (a + 12) 4 _ 4 (seq : Int) rfl rfl (by decide) (by omega) E7.out).mono ?_
          rintro e w5 ⟨rfl, hw5⟩
          rw [hw5]
          clear hw5 w5
          go_wp2_with fail
          refine hK.out _ _ hHeld (fun hHeld => ?_)
          clear hK K
          try simp only [Act.put, List.getElem_toArray, List.getElem_cons_zero, List.getElem_cons_succ, List.setIfInBounds_toArray, List.set_cons_zero, List.set_cons_succ]
          refine wpAnyH_take (i := 21) (v := ?_) rfl (by kernel_rfl) (by kernel_rfl) (by kernel_rfl) (fun _ _ _ h => h) (Or.inl ⟨by rfl, ?_⟩) (by assumption) ?_
          case refine_2 => intro W hSw; go_simp; try rfl
          try simp only [Act.put, List.getElem_toArray, List.getElem_cons_zero, List.getElem_cons_succ, List.setIfInBounds_toArray, List.set_cons_zero, List.set_cons_succ]
          refine wpAnyH_ready (rs := [23]) (by kernel_rfl) (by simp) ?_
          refine AllReadyH.cons rfl (fun K hK => ?_) AllReadyH.nil
          go_simp
          refine hK.out _ _ (HBD.out.alloc HBD.out.size _) (fun hHeld => ?_)
          clear hK K
          try simp only [Act.put, List.getElem_toArray, List.getElem_cons_zero, List.getElem_cons_succ, List.setIfInBounds_toArray, List.set_cons_zero, List.set_cons_succ]
          refine wpAnyH_done (by kernel_rfl) ?_ _
          go_wp2_with fail
          go_meet
          exact ⟨by rw [hs0], rfl⟩
      · go_simp
        refine hK.out _ _ (hHeld.alloc hHeld.size _) (fun hHeld => ?_)
        clear hK K
        try simp only [Act.put, List.getElem_toArray, List.getElem_cons_zero, List.getElem_cons_succ, List.setIfInBounds_toArray, List.set_cons_zero, List.set_cons_succ]
        refine wpAnyH_ready (rs := [12]) (by kernel_rfl) (by simp) ?_
        refine AllReadyH.cons rfl (fun K hK => ?_) AllReadyH.nil
        go_simp
        refine (HNUM.out _ hHeld (a + 6) 2 _ 2 (age : Int) rfl rfl (by decide) (by omega) E5.out).mono ?_
        rintro e w5 ⟨rfl, hw5⟩
        rw [hw5]
        clear hw5 w5
        go_wp2_with fail
        refine hK.out _ _ hHeld (fun hHeld => ?_)
        clear hK K
        try simp only [Act.put, List.getElem_toArray, List.getElem_cons_zero, List.getElem_cons_succ, List.setIfInBounds_toArray, List.set_cons_zero, List.set_cons_succ]
        refine wpAnyH_ready (rs := [16]) (by kernel_rfl) (by simp) ?_
        refine AllReadyH.cons rfl (fun K hK => ?_) AllReadyH.nil
        go_simp
        refine (HNUM.out _ hHeld (a + 8) 4 _ 4 (origin : Int) rfl rfl (by decide) (by omega) E6.out).mono ?_
        rintro e w5 ⟨rfl, hw5⟩
        rw [hw5]
        clear hw5 w5
        go_wp2_with fail
        refine hK.out _ _ hHeld (fun hHeld => ?_)
        clear hK K
        try simp only [Act.put, List.getElem_toArray, List.getElem_cons_zero, List.getElem_cons_succ, List.setIfInBounds_toArray, List.set_cons_zero, List.set_cons_succ]
        refine wpAnyH_ready (rs := [20]) (by kernel_rfl) (by simp) ?_
        refine AllReadyH.cons rfl (fun K hK => ?_) AllReadyH.nil
        go_simp
        refine (HNUM.out _ hHeld (a + 12) 4 _ 4 (seq : Int) rfl rfl (by decide) (by omega) E7.out).mono ?_
        rintro e w5 ⟨rfl, hw5⟩
        rw [hw5]
        clear hw5 w5
        go_wp2_with fail
        refine hK.out _ _ hHeld (fun hHeld => ?_)
        clear hK K
        try simp only [Act.put, List.getElem_toArray, List.getElem_cons_zero, List.getElem_cons_succ, List.setIfInBounds_toArray, List.set_cons_zero, List.set_cons_succ]
        refine wpAnyH_take (i := 21) (v := ?_) rfl (by kernel_rfl) (by kernel_rfl) (by kernel_rfl) (fun _ _ _ h => h) (Or.inl ⟨by rfl, ?_⟩) (by assumption) ?_
        case refine_2 => intro W hSw; go_simp; try rfl
        try simp only [Act.put, List.getElem_toArray, List.getElem_cons_zero, List.getElem_cons_succ, List.setIfInBounds_toArray, List.set_cons_zero, List.set_cons_succ]
        refine wpAnyH_ready (rs := [23]) (by kernel_rfl) (by simp) ?_
        refine AllReadyH.cons rfl (fun K hK => ?_) AllReadyH.nil
        go_simp
        refine hK.out _ _ (HBD.out.alloc HBD.out.size _) (fun hHeld => ?_)
        clear hK K
        try simp only [Act.put, List.getElem_toArray, List.getElem_cons_zero, List.getElem_cons_succ, List.setIfInBounds_toArray, List.set_cons_zero, List.set_cons_succ]
        refine wpAnyH_done (by kernel_rfl) ?_ _
        go_wp2_with fail
        go_meet
        exact ⟨by rw [hs0], rfl⟩
    · go_simp
      refine hK.out _ _ (hHeld.alloc hHeld.size _) (fun hHeld => ?_)
      clear hK K
      try simp only [Act.put, List.getElem_toArray, List.getElem_cons_zero, List.getElem_cons_succ, List.setIfInBounds_toArray, List.set_cons_zero, List.set_cons_succ]
      refine wpAnyH_ready (rs := [8]) (by kernel_rfl) (by simp) ?_
      refine AllReadyH.cons rfl (fun K hK => ?_) AllReadyH.nil
      go_simp
      refine (HNUM.out _ hHeld (a + 4) 2 _ 2 (area : Int) rfl rfl (by decide) (by omega) E4.out).mono ?_
      rintro e w5 ⟨rfl, hw5⟩
      rw [hw5]
      clear hw5 w5
      go_wp2_with fail
      refine hK.out _ _ hHeld (fun hHeld => ?_)
      clear hK K
      try simp only [Act.put, List.getElem_toArray, List.getElem_cons_zero, List.getElem_cons_succ, List.setIfInBounds_toArray, List.set_cons_zero, List.set_cons_succ]
      refine wpAnyH_ready (rs := [12]) (by kernel_rfl) (by simp) ?_
      refine AllReadyH.cons rfl (fun K hK => ?_) AllReadyH.nil
      go_simp
      refine (HNUM.out _ hHeld (a + 6) 2 _ 2 (age : Int) rfl rfl (by decide) (by omega) E5.out).mono ?_
      rintro e w5 ⟨rfl, hw5⟩
      rw [hw5]
      clear hw5 w5
      go_wp2_with fail
      refine hK.out _ _ hHeld (fun hHeld => ?_)
      clear hK K
      try simp only [Act.put, List.getElem_toArray, List.getElem_cons_zero, List.getElem_cons_succ, List.setIfInBounds_toArray, List.set_cons_zero, List.set_cons_succ]
      refine wpAnyH_ready (rs := [16]) (by kernel_rfl) (by simp) ?_
      refine AllReadyH.cons rfl (fun K hK => ?_) AllReadyH.nil
      go_simp
      refine (HNUM.out _ hHeld (a + 8) 4 _ 4 (origin : Int) rfl rfl (by decide) (by omega) E6.out).mono ?_
      rintro e w5 ⟨rfl, hw5⟩
      rw [hw5]
      clear hw5 w5
      go_wp2_with fail
      refine hK.out _ _ hHeld (fun hHeld => ?_)
      clear hK K
      try simp only [Act.put, List.getElem_toArray, List.getElem_cons_zero, List.getElem_cons_succ, List.setIfInBounds_toArray, List.set_cons_zero, List.set_cons_succ]
      refine wpAnyH_ready (rs := [20]) (by kernel_rfl) (by simp) ?_
      refine AllReadyH.cons rfl (fun K hK => ?_) AllReadyH.nil
      go_simp
      refine (HNUM.out _ hHeld (a + 12) 4 _ 4 (seq : Int) rfl rfl (by decide) (by omega) E7.out).mono ?_
      rintro e w5 ⟨rfl, hw5⟩
      rw [hw5]
      clear hw5 w5
      go_wp2_with fail
      refine hK.out _ _ hHeld (fun hHeld => ?_)
      clear hK K
      try simp only [Act.put, List.getElem_toArray, List.getElem_cons_zero, List.getElem_cons_succ, List.setIfInBounds_toArray, List.set_cons_zero, List.set_cons_succ]
      refine wpAnyH_take (i := 21) (v := ?_) rfl (by kernel_rfl) (by kernel_rfl) (by kernel_rfl) (fun _ _ _ h => h) (Or.inl ⟨by rfl, ?_⟩) (by assumption) ?_
      case refine_2 => intro W hSw; go_simp; try rfl
      try simp only [Act.put, List.getElem_toArray, List.getElem_cons_zero, List.getElem_cons_succ, List.setIfInBounds_toArray, List.set_cons_zero, List.set_cons_succ]
      refine wpAnyH_ready (rs := [23]) (by kernel_rfl) (by simp) ?_
      refine AllReadyH.cons rfl (fun K hK => ?_) AllReadyH.nil
      go_simp
      refine hK.out _ _ (HBD.out.alloc HBD.out.size _) (fun hHeld => ?_)
      clear hK K
      try simp only [Act.put, List.getElem_toArray, List.getElem_cons_zero, List.getElem_cons_succ, List.setIfInBounds_toArray, List.set_cons_zero, List.set_cons_succ]
      refine wpAnyH_done (by kernel_rfl) ?_ _
      go_wp2_with fail
      go_meet
      exact ⟨by rw [hs0], rfl⟩
  case rest =>
    obtain ⟨rfl, hwc⟩ := hcut
    obtain ⟨s, hs⟩ : ∃ s, w0.heap.size = s := ⟨_, rfl⟩
    have HA : Hid (AI w s (kind : Int) (area : Int) (origin : Int) 0 0 (seq : Int) (age : Int) (.slice none 0 0) (.slice none 0 0) 0 0 wc) := by
      have hbx := lbox_new hwc.symm
      have hsz : w0.drew.heap.size = s := hs
      rw [hsz] at hbx
      have hlow : Below w0.heap.size w0 wc := by rw [hwc]; exact (drew_bel w0).alloc (Nat.le_refl _) _
      refine ⟨HB0.out.trans (hlow.mono HB0.out.size), hbx.1, fun i => frozen_cells (by rw [hwc, ← hs]; exact World.alloc_heap_new w0.drew _) i, HZ0.out.blk (hlow.block _ (by omega)), fun i => (Below.frozen (p := ⟨w.heap.size, i, none⟩) hlow (by show w.heap.size < _; omega)).trans (HF0.out i), by omega, by rw [hwc, ← hs]; simp⟩
    rw [hs]
    clear hwc hq4 hq6 hq8 hq12 HBD HB0 HZ0 HF0 hs0 hs
    obtain ⟨A16, hA16⟩ : ∃ A, a + 16 = A := ⟨_, rfl⟩
    obtain ⟨A3, hA3⟩ : ∃ A, a + 3 = A := ⟨_, rfl⟩
    have hq16 : IntKind.i64.wrap ((a : Int) + 16) = (A16 : Int) := by rw [IntWalk.i64_in _ (by omega)]; omega
    have hq3 : IntKind.i64.wrap ((a : Int) + 3) = (A3 : Int) := by rw [IntWalk.i64_in _ (by omega)]; omega
    have hr3 : (0 : Int) ≤ (A3 : Int) := by omega
    have hr3L : (A3 : Int) < L := by omega
    rw [hA3] at HC
    rw [hA16] at E8
    have hup : IntKind.u32.wrap (pa : Int) = (pa : Int) := u32_in (by omega) (by omega)
    go_upto_region 2 with fail
    refine wp_region_held_drew (S := fun W => Below w.heap.size w W) (by kernel_rfl) (HA.out.bel.trans ((drew_bel wc).mono HA.out.bel.size)) (fun hHeld => ?_)
    obtain ⟨wD, hwD⟩ : ∃ wD, wc.drew = wD := ⟨_, rfl⟩
    rw [hwD] at hHeld ⊢
    have HAD : Hid (AI w s (kind : Int) (area : Int) (origin : Int) 0 0 (seq : Int) (age : Int) (.slice none 0 0) (.slice none 0 0) 0 0 wD) := by rw [← hwD]; exact HA.out.next (drew_bel wc)
    clear hwD HA
    refine wpAnyH_take (i := 0) (v := ?_) rfl (by kernel_rfl) (by kernel_rfl) (by kernel_rfl) (fun _ _ _ h => h) (Or.inl ⟨by rfl, ?_⟩) (by assumption) ?_
    case refine_2 => intro W hSw; obtain ⟨j0, j1, j2, j3⟩ := HC.out W hSw; go_simp; try rfl
    try simp only [Act.put, List.getElem_toArray, List.getElem_cons_zero, List.setIfInBounds_toArray, List.set_cons_zero, List.set_cons_succ]
    refine wpAnyH_take (i := 1) (v := ?_) rfl (by kernel_rfl) (by kernel_rfl) (by kernel_rfl) (fun _ _ _ h => h) (Or.inl ⟨by rfl, ?_⟩) (by assumption) ?_
    case refine_2 => intro W hSw; obtain ⟨j0, j1, j2, j3⟩ := HC.out W hSw; go_simp; try rfl
    try simp only [Act.put, List.getElem_toArray, List.getElem_cons_zero, List.getElem_cons_succ, List.setIfInBounds_toArray, List.set_cons_zero, List.set_cons_succ]
    refine wpAnyH_take (i := 2) (v := ?_) rfl (by kernel_rfl) (by kernel_rfl) (by kernel_rfl) (fun _ _ _ h => h) (Or.inl ⟨by rfl, ?_⟩) (by assumption) ?_
    case refine_2 => intro W hSw; obtain ⟨j0, j1, j2, j3⟩ := HC.out W hSw; go_simp; try rfl
    try simp only [Act.put, List.getElem_toArray, List.getElem_cons_zero, List.getElem_cons_succ, List.setIfInBounds_toArray, List.set_cons_zero, List.set_cons_succ]
    refine wpAnyH_take (i := 5) (v := ?_) rfl (by kernel_rfl) (by kernel_rfl) (by kernel_rfl) (fun _ _ _ h => h) (Or.inl ⟨by rfl, ?_⟩) (by assumption) ?_
    case refine_2 => intro W hSw; obtain ⟨j0, j1, j2, j3⟩ := HC.out W hSw; go_simp; try rfl
    try simp only [Act.put, List.getElem_toArray, List.getElem_cons_zero, List.getElem_cons_succ, List.setIfInBounds_toArray, List.set_cons_zero, List.set_cons_succ]
    refine wpAnyH_take (i := 6) (v := ?_) rfl (by kernel_rfl) (by kernel_rfl) (by kernel_rfl) (fun _ _ _ h => h) (Or.inl ⟨by rfl, ?_⟩) (by assumption) ?_
    case refine_2 => intro W hSw; obtain ⟨j0, j1, j2, j3⟩ := HC.out W hSw; go_simp; try rfl
    try simp only [Act.put, List.getElem_toArray, List.getElem_cons_zero, List.getElem_cons_succ, List.setIfInBounds_toArray, List.set_cons_zero, List.set_cons_succ]
    refine wpAnyH_take (i := 7) (v := ?_) rfl (by kernel_rfl) (by kernel_rfl) (by kernel_rfl) (fun _ _ _ h => h) (Or.inl ⟨by rfl, ?_⟩) (by assumption) ?_
    case refine_2 => intro W hSw; obtain ⟨j0, j1, j2, j3⟩ := HC.out W hSw; go_simp; try rfl
    try simp only [Act.put, List.getElem_toArray, List.getElem_cons_zero, List.getElem_cons_succ, List.setIfInBounds_toArray, List.set_cons_zero, List.set_cons_succ]
    refine wpAnyH_take (i := 8) (v := ?_) rfl (by kernel_rfl) (by kernel_rfl) (by kernel_rfl) (fun _ _ _ h => h) (Or.inl ⟨by rfl, ?_⟩) (by assumption) ?_
    case refine_2 => intro W hSw; obtain ⟨j0, j1, j2, j3⟩ := HC.out W hSw; go_simp; try rfl
    try simp only [Act.put, List.getElem_toArray, List.getElem_cons_zero, List.getElem_cons_succ, List.setIfInBounds_toArray, List.set_cons_zero, List.set_cons_succ]
    refine wpAnyH_take (i := 9) (v := ?_) rfl (by kernel_rfl) (by kernel_rfl) (by kernel_rfl) (fun _ _ _ h => h) (Or.inl ⟨by rfl, ?_⟩) (by assumption) ?_
    case refine_2 => intro W hSw; obtain ⟨j0, j1, j2, j3⟩ := HC.out W hSw; go_simp; try rfl
    try simp only [Act.put, List.getElem_toArray, List.getElem_cons_zero, List.getElem_cons_succ, List.setIfInBounds_toArray, List.set_cons_zero, List.set_cons_succ]
    refine wpAnyH_take (i := 10) (v := ?_) rfl (by kernel_rfl) (by kernel_rfl) (by kernel_rfl) (fun _ _ _ h => h) (Or.inl ⟨by rfl, ?_⟩) (by assumption) ?_
    case refine_2 => intro W hSw; obtain ⟨j0, j1, j2, j3⟩ := HC.out W hSw; go_simp; try rfl
    try simp only [Act.put, List.getElem_toArray, List.getElem_cons_zero, List.getElem_cons_succ, List.setIfInBounds_toArray, List.set_cons_zero, List.set_cons_succ]
    refine wpAnyH_ready (rs := [3]) (by kernel_rfl) (by simp) ?_
    refine AllReadyH.cons rfl (fun K hK => ?_) AllReadyH.nil
    go_simp
    refine (HNUM.out _ hHeld A16 4 _ 4 (pa : Int) rfl rfl (by decide) (by omega) E8.out).mono ?_
    rintro e w5 ⟨rfl, hw5⟩
    rw [hw5]
    clear hw5 w5
    go_wp2_with fail
    refine hK.out _ _ hHeld (fun hHeld => ?_)
    clear hK K
    try simp only [Act.put, List.getElem_toArray, List.getElem_cons_zero, List.getElem_cons_succ, List.setIfInBounds_toArray, List.set_cons_zero, List.set_cons_succ]
    refine wpAnyH_take (i := 4) (v := ?_) rfl (by kernel_rfl) (by kernel_rfl) (by kernel_rfl) (fun _ _ _ h => h) (Or.inl ⟨by rfl, ?_⟩) (by assumption) ?_
    case refine_2 => intro W hSw; go_simp; try rfl
    try simp only [Act.put, List.getElem_toArray, List.getElem_cons_zero, List.getElem_cons_succ, List.setIfInBounds_toArray, List.set_cons_zero, List.set_cons_succ]
    refine wpAnyH_take (i := 11) (v := ?_) rfl (by kernel_rfl) (by kernel_rfl) (by kernel_rfl) (fun _ _ _ h => h) (Or.inl ⟨by rfl, ?_⟩) (by assumption) ?_
    case refine_2 => intro W hSw; go_simp; try rfl
    try simp only [Act.put, List.getElem_toArray, List.getElem_cons_zero, List.getElem_cons_succ, List.setIfInBounds_toArray, List.set_cons_zero, List.set_cons_succ]
    refine wpAnyH_take (i := 12) (v := ?_) rfl (by kernel_rfl) (by kernel_rfl) (by kernel_rfl) (fun _ _ _ h => h) (Or.inl ⟨by rfl, ?_⟩) (by assumption) ?_
    case refine_2 => intro W hSw; go_simp; try rfl
    try simp only [Act.put, List.getElem_toArray, List.getElem_cons_zero, List.getElem_cons_succ, List.setIfInBounds_toArray, List.set_cons_zero, List.set_cons_succ]
    refine wpAnyH_ready (rs := [13]) (by kernel_rfl) (by simp) ?_
    refine AllReadyH.cons rfl (fun K hK => ?_) AllReadyH.nil
    obtain ⟨c0, c1, c2, c3, c4, c5, c6, c7, c8, c9, c10⟩ := HAD.out.bx
    have fx := HAD.out.fx
    have HA2 : Hid (AI w s (kind : Int) (area : Int) (origin : Int) (pa : Int) (pn : Int) (seq : Int) (age : Int) (.slice none 0 0) (.slice none 0 0) 0 0 ((wD.setCell ⟨s, 3, none⟩ (.int .u32 (pa : Int))).setCell ⟨s, 4, none⟩ (.int .i64 (pn : Int)))) := (HAD.out.set3 _).set4 _
    go_simp
    refine hK.out _ _ HA2.out.bel (fun hHeld => ?_)
    clear hK K
    try simp only [Act.put, List.getElem_toArray, List.getElem_cons_zero, List.getElem_cons_succ, List.setIfInBounds_toArray, List.set_cons_zero, List.set_cons_succ]
    refine wpAnyH_done (by kernel_rfl) ?_ _
    clear hHeld c0 c1 c2 c3 c4 c5 c6 c7 c8 c9 c10 fx HAD
    obtain ⟨w4, hw4⟩ : ∃ w4, ((wD.setCell ⟨s, 3, none⟩ (.int .u32 (pa : Int))).setCell ⟨s, 4, none⟩ (.int .i64 (pn : Int))) = w4 := ⟨_, rfl⟩
    rw [hw4] at HA2 ⊢
    clear hw4
    obtain ⟨A20, hA20⟩ : ∃ A, a + 20 = A := ⟨_, rfl⟩
    obtain ⟨A24, hA24⟩ : ∃ A, a + 24 = A := ⟨_, rfl⟩
    have hq20 : IntKind.i64.wrap ((a : Int) + 20) = (A20 : Int) := by rw [IntWalk.i64_in _ (by omega)]; omega
    have hq24 : IntKind.i64.wrap ((a : Int) + 24) = (A24 : Int) := by rw [IntWalk.i64_in _ (by omega)]; omega
    rw [hA20] at E9
    rw [hA24] at E10
    go_wp2_with fail
    refine (HNUM.out _ HA2.out.bel A20 4 _ 4 (cost : Int) rfl rfl (by decide) (by omega) E9.out).mono ?_
    rintro e w5 ⟨rfl, hw5⟩
    rw [hw5]
    clear hw5 w5
    go_wp2_with fail
    refine (HNUM.out _ HA2.out.bel A24 4 _ 4 (tag : Int) rfl rfl (by decide) (by omega) E10.out).mono ?_
    rintro e w5 ⟨rfl, hw5⟩
    rw [hw5]
    clear hw5 w5
    obtain ⟨c0, c1, c2, c3, c4, c5, c6, c7, c8, c9, c10⟩ := HA2.out.bx
    have fx := HA2.out.fx
    have HA3 : Hid (AI w s (kind : Int) (area : Int) (origin : Int) (pa : Int) (pn : Int) (seq : Int) (age : Int) (.slice none 0 0) (.slice none 0 0) (cost : Int) (tag : Int) ((w4.setCell ⟨s, 9, none⟩ (.int .i64 (cost : Int))).setCell ⟨s, 10, none⟩ (.int .i64 (tag : Int)))) := (HA2.out.set9 _).set10 _
    go_wp2_with fail
    clear c0 c1 c2 c3 c4 c5 c6 c7 c8 c9 c10 fx HA2
    obtain ⟨w6, hw6⟩ : ∃ w6, ((w4.setCell ⟨s, 9, none⟩ (.int .i64 (cost : Int))).setCell ⟨s, 10, none⟩ (.int .i64 (tag : Int))) = w6 := ⟨_, rfl⟩
    rw [hw6] at HA3 ⊢
    clear hw6
    obtain ⟨A1, hA1⟩ : ∃ A, a + 1 = A := ⟨_, rfl⟩
    obtain ⟨A2, hA2⟩ : ∃ A, a + 2 = A := ⟨_, rfl⟩
    have hq1 : IntKind.i64.wrap ((a : Int) + 1) = (A1 : Int) := by rw [IntWalk.i64_in _ (by omega)]; omega
    have hq2 : IntKind.i64.wrap ((a : Int) + 2) = (A2 : Int) := by rw [IntWalk.i64_in _ (by omega)]; omega
    have hr1 : (0 : Int) ≤ (A1 : Int) := by omega
    have hr1L : (A1 : Int) < L := by omega
    have hr2 : (0 : Int) ≤ (A2 : Int) := by omega
    have hr2L : (A2 : Int) < L := by omega
    rw [hA1, hA2] at HC
    refine wp_region_held_drew (S := fun W => Below w.heap.size w W) (by kernel_rfl) (HA3.out.bel.trans ((drew_bel w6).mono HA3.out.bel.size)) (fun hHeld => ?_)
    obtain ⟨wE, hwE⟩ : ∃ wE, w6.drew = wE := ⟨_, rfl⟩
    rw [hwE] at hHeld ⊢
    have HA4 : Hid (AI w s (kind : Int) (area : Int) (origin : Int) (pa : Int) (pn : Int) (seq : Int) (age : Int) (.slice none 0 0) (.slice none 0 0) (cost : Int) (tag : Int) wE) := by rw [← hwE]; exact HA3.out.next (drew_bel w6)
    clear hwE HA3
    refine wpAnyH_take (i := 0) (v := ?_) rfl (by kernel_rfl) (by kernel_rfl) (by kernel_rfl) (fun _ _ _ h => h) (Or.inl ⟨by rfl, ?_⟩) (by assumption) ?_
    case refine_2 => intro W hSw; obtain ⟨j0, j1, j2, j3⟩ := HC.out W hSw; go_simp; try rfl
    try simp only [Act.put, List.getElem_toArray, List.getElem_cons_zero, List.setIfInBounds_toArray, List.set_cons_zero, List.set_cons_succ]
    refine wpAnyH_take (i := 1) (v := ?_) rfl (by kernel_rfl) (by kernel_rfl) (by kernel_rfl) (fun _ _ _ h => h) (Or.inl ⟨by rfl, ?_⟩) (by assumption) ?_
    case refine_2 => intro W hSw; obtain ⟨j0, j1, j2, j3⟩ := HC.out W hSw; go_simp; try rfl
    try simp only [Act.put, List.getElem_toArray, List.getElem_cons_zero, List.getElem_cons_succ, List.setIfInBounds_toArray, List.set_cons_zero, List.set_cons_succ]
    refine wpAnyH_take (i := 2) (v := ?_) rfl (by kernel_rfl) (by kernel_rfl) (by kernel_rfl) (fun _ _ _ h => h) (Or.inl ⟨by rfl, ?_⟩) (by assumption) ?_
    case refine_2 => intro W hSw; obtain ⟨j0, j1, j2, j3⟩ := HC.out W hSw; go_simp; try rfl
    try simp only [Act.put, List.getElem_toArray, List.getElem_cons_zero, List.getElem_cons_succ, List.setIfInBounds_toArray, List.set_cons_zero, List.set_cons_succ]
    refine wpAnyH_take (i := 3) (v := ?_) rfl (by kernel_rfl) (by kernel_rfl) (by kernel_rfl) (fun _ _ _ h => h) (Or.inl ⟨by rfl, ?_⟩) (by assumption) ?_
    case refine_2 => intro W hSw; obtain ⟨j0, j1, j2, j3⟩ := HC.out W hSw; go_simp; try rfl
    try simp only [Act.put, List.getElem_toArray, List.getElem_cons_zero, List.getElem_cons_succ, List.setIfInBounds_toArray, List.set_cons_zero, List.set_cons_succ]
    refine wpAnyH_take (i := 4) (v := ?_) rfl (by kernel_rfl) (by kernel_rfl) (by kernel_rfl) (fun _ _ _ h => h) (Or.inl ⟨by rfl, ?_⟩) (by assumption) ?_
    case refine_2 => intro W hSw; obtain ⟨j0, j1, j2, j3⟩ := HC.out W hSw; go_simp; try rfl
    try simp only [Act.put, List.getElem_toArray, List.getElem_cons_zero, List.getElem_cons_succ, List.setIfInBounds_toArray, List.set_cons_zero, List.set_cons_succ]
    refine wpAnyH_take (i := 5) (v := ?_) rfl (by kernel_rfl) (by kernel_rfl) (by kernel_rfl) (fun _ _ _ h => h) (Or.inl ⟨by rfl, ?_⟩) (by assumption) ?_
    case refine_2 => intro W hSw; obtain ⟨j0, j1, j2, j3⟩ := HC.out W hSw; go_simp; try rfl
    try simp only [Act.put, List.getElem_toArray, List.getElem_cons_zero, List.getElem_cons_succ, List.setIfInBounds_toArray, List.set_cons_zero, List.set_cons_succ]
    refine wpAnyH_take (i := 6) (v := ?_) rfl (by kernel_rfl) (by kernel_rfl) (by kernel_rfl) (fun _ _ _ h => h) (Or.inl ⟨by rfl, ?_⟩) (by assumption) ?_
    case refine_2 => intro W hSw; obtain ⟨j0, j1, j2, j3⟩ := HC.out W hSw; go_simp; try rfl
    try simp only [Act.put, List.getElem_toArray, List.getElem_cons_zero, List.getElem_cons_succ, List.setIfInBounds_toArray, List.set_cons_zero, List.set_cons_succ]
    refine wpAnyH_take (i := 7) (v := ?_) rfl (by kernel_rfl) (by kernel_rfl) (by kernel_rfl) (fun _ _ _ h => h) (Or.inl ⟨by rfl, ?_⟩) (by assumption) ?_
    case refine_2 => intro W hSw; obtain ⟨j0, j1, j2, j3⟩ := HC.out W hSw; go_simp; try rfl
    try simp only [Act.put, List.getElem_toArray, List.getElem_cons_zero, List.getElem_cons_succ, List.setIfInBounds_toArray, List.set_cons_zero, List.set_cons_succ]
    refine wpAnyH_take (i := 8) (v := ?_) rfl (by kernel_rfl) (by kernel_rfl) (by kernel_rfl) (fun _ _ _ h => h) (Or.inl ⟨by rfl, ?_⟩) (by assumption) ?_
    case refine_2 => intro W hSw; obtain ⟨j0, j1, j2, j3⟩ := HC.out W hSw; go_simp; try rfl
    try simp only [Act.put, List.getElem_toArray, List.getElem_cons_zero, List.getElem_cons_succ, List.setIfInBounds_toArray, List.set_cons_zero, List.set_cons_succ]
    refine wpAnyH_take (i := 9) (v := ?_) rfl (by kernel_rfl) (by kernel_rfl) (by kernel_rfl) (fun _ _ _ h => h) (Or.inl ⟨by rfl, ?_⟩) (by assumption) ?_
    case refine_2 => intro W hSw; obtain ⟨j0, j1, j2, j3⟩ := HC.out W hSw; go_simp; try rfl
    try simp only [Act.put, List.getElem_toArray, List.getElem_cons_zero, List.getElem_cons_succ, List.setIfInBounds_toArray, List.set_cons_zero, List.set_cons_succ]
    refine wpAnyH_take (i := 10) (v := ?_) rfl (by kernel_rfl) (by kernel_rfl) (by kernel_rfl) (fun _ _ _ h => h) (Or.inl ⟨by rfl, ?_⟩) (by assumption) ?_
    case refine_2 => intro W hSw; obtain ⟨j0, j1, j2, j3⟩ := HC.out W hSw; go_simp; try rfl
    try simp only [Act.put, List.getElem_toArray, List.getElem_cons_zero, List.getElem_cons_succ, List.setIfInBounds_toArray, List.set_cons_zero, List.set_cons_succ]
    refine wpAnyH_take (i := 11) (v := ?_) rfl (by kernel_rfl) (by kernel_rfl) (by kernel_rfl) (fun _ _ _ h => h) (Or.inl ⟨by rfl, ?_⟩) (by assumption) ?_
    case refine_2 => intro W hSw; obtain ⟨j0, j1, j2, j3⟩ := HC.out W hSw; go_simp; try rfl
    try simp only [Act.put, List.getElem_toArray, List.getElem_cons_zero, List.getElem_cons_succ, List.setIfInBounds_toArray, List.set_cons_zero, List.set_cons_succ]
    refine wpAnyH_take (i := 12) (v := ?_) rfl (by kernel_rfl) (by kernel_rfl) (by kernel_rfl) (fun _ _ _ h => h) (Or.inl ⟨by rfl, ?_⟩) (by assumption) ?_
    case refine_2 => intro W hSw; obtain ⟨j0, j1, j2, j3⟩ := HC.out W hSw; go_simp; try rfl
    try simp only [Act.put, List.getElem_toArray, List.getElem_cons_zero, List.getElem_cons_succ, List.setIfInBounds_toArray, List.set_cons_zero, List.set_cons_succ]
    refine wpAnyH_take (i := 13) (v := ?_) rfl (by kernel_rfl) (by kernel_rfl) (by kernel_rfl) (fun _ _ _ h => h) (Or.inl ⟨by rfl, ?_⟩) (by assumption) ?_
    case refine_2 => intro W hSw; obtain ⟨j0, j1, j2, j3⟩ := HC.out W hSw; go_simp; try rfl
    try simp only [Act.put, List.getElem_toArray, List.getElem_cons_zero, List.getElem_cons_succ, List.setIfInBounds_toArray, List.set_cons_zero, List.set_cons_succ]
    refine wpAnyH_done (by kernel_rfl) ?_ _
    clear hHeld hq1 hq2 hr1 hr2 hr1L hr2L hq3 hr3 hr3L hq16 hq20 hq24 hup
    obtain ⟨A28, hA28⟩ : ∃ A, a + 28 = A := ⟨_, rfl⟩
    have hq28 : IntKind.i64.wrap ((a : Int) + 28) = (A28 : Int) := by rw [IntWalk.i64_in _ (by omega)]; omega
    rw [hA28] at HLL hfit
    clear hA28 hA1 hA2 hA3 hA16 hA20 hA24
    go_wp2_with fail
    go_loopw [1, 8] (fun av iv wr => ∃ (j : Nat) (xs : List (Int × Int × Int)) (uv : Value), j ≤ nl ∧ iv = .int .i64 (j : Int) ∧ av = .int .i64 ((A28 + 8 * j : Nat) : Int) ∧ xs.length = j ∧ AI w s (kind : Int) (area : Int) (origin : Int) (pa : Int) (pn : Int) (seq : Int) (age : Int) uv (.slice none 0 0) (cost : Int) (tag : Int) wr ∧ OwnT (s + 1) 54 .i64 wr uv xs ∧ (xs ++ (decN decLk (nl - j) (bs.drop (A28 + 8 * j), false)).1 = LL.1 ∧ (decN decLk (nl - j) (bs.drop (A28 + 8 * j), false)).2 = LL.2)) (fun _ i _ => nl - (intOf i).toNat)
    case atStart => exact ⟨0, [], .slice none 0 0, by omega, rfl, rfl, rfl, HA4.out, ownT_none _ _ _ _, by rw [Nat.sub_zero, Nat.mul_zero, Nat.add_zero, HLL.out]; exact ⟨rfl, rfl⟩⟩
    case round =>
      obtain ⟨j, xs, uv, hj, rfl, rfl, hxl, hai, how, hdec⟩ := hrel
      have HAI : Hid (AI w s (kind : Int) (area : Int) (origin : Int) (pa : Int) (pn : Int) (seq : Int) (age : Int) uv (.slice none 0 0) (cost : Int) (tag : Int) wr) := hai
      have HOW : Hid (OwnT (s + 1) 54 .i64 wr uv xs) := how
      have HXL : Hid (xs.length = j) := hxl
      have HD : Hid (xs ++ (decN decLk (nl - j) (bs.drop (A28 + 8 * j), false)).1 = LL.1 ∧ (decN decLk (nl - j) (bs.drop (A28 + 8 * j), false)).2 = LL.2) := hdec
      clear hai how hxl hdec HA4
      obtain ⟨p, hp⟩ : ∃ p, A28 + 8 * j = p := ⟨_, rfl⟩
      rw [hp] at HD ⊢
      by_cases hlt : j < nl
      · have hbig : xs.length ≤ 1048576 := by rw [HXL.out]; omega
        have hpL : p + 8 ≤ L := by omega
        obtain ⟨p4, hp4⟩ : ∃ q, p + 4 = q := ⟨_, rfl⟩
        obtain ⟨p6, hp6⟩ : ∃ q, p + 6 = q := ⟨_, rfl⟩
        obtain ⟨p8, hp8⟩ : ∃ q, p + 8 = q := ⟨_, rfl⟩
        have hy := decLk_at HLX.out hpL
        rw [hp4, hp6, hp8] at hy
        obtain ⟨xa, hxa⟩ : ∃ x, num ((bs.drop p).take 4) = x := ⟨_, rfl⟩
        obtain ⟨xb, hxb⟩ : ∃ x, num ((bs.drop p4).take 2) = x := ⟨_, rfl⟩
        obtain ⟨xc, hxc⟩ : ∃ x, num ((bs.drop p6).take 2) = x := ⟨_, rfl⟩
        rw [hxa, hxb, hxc] at hy
        have Xxa : Hid (((num ((bs.drop p).take 4) : Nat) : Int) = (xa : Int)) := by rw [hxa]; exact rfl
        have Xxb : Hid (((num ((bs.drop p4).take 2) : Nat) : Int) = (xb : Int)) := by rw [hxb]; exact rfl
        have Xxc : Hid (((num ((bs.drop p6).take 2) : Nat) : Int) = (xc : Int)) := by rw [hxc]; exact rfl
        have HPN : Hid (A28 + 8 * (j + 1) = p8) := by show _ = _; omega
        have HNX : Hid ((xs ++ [((xa : Int), (xb : Int), (xc : Int))]) ++ (decN decLk (nl - (j + 1)) (bs.drop (A28 + 8 * (j + 1)), false)).1 = LL.1 ∧ (decN decLk (nl - (j + 1)) (bs.drop (A28 + 8 * (j + 1)), false)).2 = LL.2) := by
          have h1 := decN_snoc (r := (bs.drop p, false)) hlt HD.out
          rw [hy] at h1
          rw [HPN.out]
          exact h1
        have hw4 : IntKind.i64.wrap ((p : Int) + 4) = (p4 : Int) := by rw [IntWalk.i64_in _ (by omega)]; omega
        have hw6 : IntKind.i64.wrap ((p : Int) + 6) = (p6 : Int) := by rw [IntWalk.i64_in _ (by omega)]; omega
        have hw8 : IntKind.i64.wrap ((p : Int) + 8) = (p8 : Int) := by rw [IntWalk.i64_in _ (by omega)]; omega
        have hjj : (j : Int) < nl := by omega
        clear HD hy hxa hxb hxc hp
        obtain ⟨i0, hi, hz0, hz1, hz2⟩ := info_parts infoLk
        go_wp2_with fail
        refine wp_region_held_drew (S := fun W => Below w.heap.size w W) (by kernel_rfl) (HAI.out.bel.trans ((drew_bel wr).mono HAI.out.bel.size)) (fun hHeld => ?_)
        obtain ⟨wD, hwD⟩ : ∃ wD, wr.drew = wD := ⟨_, rfl⟩
        rw [hwD] at hHeld ⊢
        have AIwD : Hid (AI w s (kind : Int) (area : Int) (origin : Int) (pa : Int) (pn : Int) (seq : Int) (age : Int) uv (.slice none 0 0) (cost : Int) (tag : Int) wD) := by rw [← hwD]; exact HAI.out.next (drew_bel wr)
        have OWwD : Hid (OwnT (s + 1) 54 .i64 wD uv xs) := by rw [← hwD]; exact HOW.out.bel (drew_bel wr)
        clear hwD
        refine wpAnyH_take (i := 0) (v := ?_) rfl (by kernel_rfl) (by kernel_rfl) (by kernel_rfl) (fun _ _ _ h => h) (Or.inl ⟨by rfl, ?_⟩) (by assumption) ?_
        case refine_2 => intro W hSw; go_simp; try rfl
        try simp only [Act.put, List.getElem_toArray, List.getElem_cons_zero, List.setIfInBounds_toArray, List.set_cons_zero, List.set_cons_succ]
        refine wpAnyH_take (i := 2) (v := ?_) rfl (by kernel_rfl) (by kernel_rfl) (by kernel_rfl) (fun _ _ _ h => h) (Or.inl ⟨by rfl, ?_⟩) (by assumption) ?_
        case refine_2 => intro W hSw; go_simp; try rfl
        try simp only [Act.put, List.getElem_toArray, List.getElem_cons_zero, List.getElem_cons_succ, List.setIfInBounds_toArray, List.set_cons_zero, List.set_cons_succ]
        refine wpAnyH_take (i := 3) (v := ?_) rfl (by kernel_rfl) (by kernel_rfl) (by kernel_rfl) (fun _ _ _ h => h) (Or.inl ⟨by rfl, ?_⟩) (by assumption) ?_
        case refine_2 => intro W hSw; go_simp; try rfl
        try simp only [Act.put, List.getElem_toArray, List.getElem_cons_zero, List.getElem_cons_succ, List.setIfInBounds_toArray, List.set_cons_zero, List.set_cons_succ]
        refine wpAnyH_take (i := 5) (v := ?_) rfl (by kernel_rfl) (by kernel_rfl) (by kernel_rfl) (fun _ _ _ h => h) (Or.inl ⟨by rfl, ?_⟩) (by assumption) ?_
        case refine_2 => intro W hSw; go_simp; try rfl
        try simp only [Act.put, List.getElem_toArray, List.getElem_cons_zero, List.getElem_cons_succ, List.setIfInBounds_toArray, List.set_cons_zero, List.set_cons_succ]
        refine wpAnyH_take (i := 6) (v := ?_) rfl (by kernel_rfl) (by kernel_rfl) (by kernel_rfl) (fun _ _ _ h => h) (Or.inl ⟨by rfl, ?_⟩) (by assumption) ?_
        case refine_2 => intro W hSw; go_simp; try rfl
        try simp only [Act.put, List.getElem_toArray, List.getElem_cons_zero, List.getElem_cons_succ, List.setIfInBounds_toArray, List.set_cons_zero, List.set_cons_succ]
        refine wpAnyH_take (i := 7) (v := ?_) rfl (by kernel_rfl) (by kernel_rfl) (by kernel_rfl) (fun _ _ _ h => h) (Or.inl ⟨by rfl, ?_⟩) (by assumption) ?_
        case refine_2 => intro W hSw; go_simp; try rfl
        try simp only [Act.put, List.getElem_toArray, List.getElem_cons_zero, List.getElem_cons_succ, List.setIfInBounds_toArray, List.set_cons_zero, List.set_cons_succ]
        refine wpAnyH_take (i := 9) (v := ?_) rfl (by kernel_rfl) (by kernel_rfl) (by kernel_rfl) (fun _ _ _ h => h) (Or.inl ⟨by rfl, ?_⟩) (by assumption) ?_
        case refine_2 => intro W hSw; go_simp; try rfl
        try simp only [Act.put, List.getElem_toArray, List.getElem_cons_zero, List.getElem_cons_succ, List.setIfInBounds_toArray, List.set_cons_zero, List.set_cons_succ]
        refine wpAnyH_take (i := 10) (v := ?_) rfl (by kernel_rfl) (by kernel_rfl) (by kernel_rfl) (fun _ _ _ h => h) (Or.inl ⟨by rfl, ?_⟩) (by assumption) ?_
        case refine_2 => intro W hSw; go_simp; try rfl
        try simp only [Act.put, List.getElem_toArray, List.getElem_cons_zero, List.getElem_cons_succ, List.setIfInBounds_toArray, List.set_cons_zero, List.set_cons_succ]
        refine wpAnyH_take (i := 11) (v := ?_) rfl (by kernel_rfl) (by kernel_rfl) (by kernel_rfl) (fun _ _ _ h => h) (Or.inl ⟨by rfl, ?_⟩) (by assumption) ?_
        case refine_2 => intro W hSw; go_simp; try rfl
        try simp only [Act.put, List.getElem_toArray, List.getElem_cons_zero, List.getElem_cons_succ, List.setIfInBounds_toArray, List.set_cons_zero, List.set_cons_succ]
        refine wpAnyH_ready (rs := [1, 4]) (by kernel_rfl) (by simp) ?_
        refine AllReadyH.cons rfl (fun K hK => ?_) (AllReadyH.cons rfl (fun K hK => ?_) AllReadyH.nil)
        · have d7 := AIwD.out.bx.c7
          go_simp
          refine hK.out _ _ hHeld (fun hHeld => ?_)
          clear hK K
          try simp only [Act.put, List.getElem_toArray, List.getElem_cons_zero, List.getElem_cons_succ, List.setIfInBounds_toArray, List.set_cons_zero, List.set_cons_succ]
          clear d7
          refine wpAnyH_ready (rs := [4]) (by kernel_rfl) (by simp) ?_
          refine AllReadyH.cons rfl (fun K hK => ?_) AllReadyH.nil
          go_simp
          refine (HNUM.out _ hHeld p 4 _ 4 (xa : Int) rfl rfl (by decide) (by omega) Xxa.out).mono ?_
          rintro e w5 ⟨rfl, hw5⟩
          rw [hw5]
          clear hw5 w5
          go_wp2_with fail
          refine hK.out _ _ hHeld (fun hHeld => ?_)
          clear hK K
          try simp only [Act.put, List.getElem_toArray, List.getElem_cons_zero, List.getElem_cons_succ, List.setIfInBounds_toArray, List.set_cons_zero, List.set_cons_succ]
          refine wpAnyH_ready (rs := [8]) (by kernel_rfl) (by simp) ?_
          refine AllReadyH.cons rfl (fun K hK => ?_) AllReadyH.nil
          go_simp
          refine (HNUM.out _ hHeld p4 2 _ 2 (xb : Int) rfl rfl (by decide) (by omega) Xxb.out).mono ?_
          rintro e w5 ⟨rfl, hw5⟩
          rw [hw5]
          clear hw5 w5
          go_wp2_with fail
          refine hK.out _ _ hHeld (fun hHeld => ?_)
          clear hK K
          try simp only [Act.put, List.getElem_toArray, List.getElem_cons_zero, List.getElem_cons_succ, List.setIfInBounds_toArray, List.set_cons_zero, List.set_cons_succ]
          refine wpAnyH_ready (rs := [12]) (by kernel_rfl) (by simp) ?_
          refine AllReadyH.cons rfl (fun K hK => ?_) AllReadyH.nil
          go_simp
          refine (HNUM.out _ hHeld p6 2 _ 2 (xc : Int) rfl rfl (by decide) (by omega) Xxc.out).mono ?_
          rintro e w5 ⟨rfl, hw5⟩
          rw [hw5]
          clear hw5 w5
          go_wp2_with fail
          refine hK.out _ _ hHeld (fun hHeld => ?_)
          clear hK K
          try simp only [Act.put, List.getElem_toArray, List.getElem_cons_zero, List.getElem_cons_succ, List.setIfInBounds_toArray, List.set_cons_zero, List.set_cons_succ]
          refine wpAnyH_take (i := 13) (v := ?_) rfl (by kernel_rfl) (by kernel_rfl) (by kernel_rfl) (fun _ _ _ h => h) (Or.inl ⟨by rfl, ?_⟩) (by assumption) ?_
          case refine_2 => intro W hSw; go_simp; try rfl
          try simp only [Act.put, List.getElem_toArray, List.getElem_cons_zero, List.getElem_cons_succ, List.setIfInBounds_toArray, List.set_cons_zero, List.set_cons_succ]
          refine wpAnyH_ready (rs := [14]) (by kernel_rfl) (by simp) ?_
          refine AllReadyH.cons rfl (fun K hK => ?_) AllReadyH.nil
          go_simp
          obtain ⟨v5, hV⟩ : ∃ v5, wD.alloc (Obj.cells #[.int .i64 (xa : Int), .int .i64 (xb : Int), .int .i64 (xc : Int)] 54) = v5 := ⟨_, rfl⟩
          have hbV : Below wD.heap.size wD v5 := by rw [← hV]; exact (Below.refl _ wD).alloc (Nat.le_refl _) _
          have AIv5 : Hid (AI w s (kind : Int) (area : Int) (origin : Int) (pa : Int) (pn : Int) (seq : Int) (age : Int) uv (.slice none 0 0) (cost : Int) (tag : Int) v5) := AIwD.out.next hbV
          have OWv5 : Hid (OwnT (s + 1) 54 .i64 v5 uv xs) := OWwD.out.bel hbV
          have HV : Hid (wD.alloc (Obj.cells #[.int .i64 (xa : Int), .int .i64 (xb : Int), .int .i64 (xc : Int)] 54) = v5) := hV
          obtain ⟨u, hu⟩ : ∃ u, wD.heap.size = u := ⟨_, rfl⟩
          have HU : Hid (wD.heap.size = u) := hu
          rw [hV, hu]
          clear hV hbV hu hHeld
          refine hK.out _ _ AIv5.out.bel (fun hHeld => ?_)
          clear hK K
          try simp only [Act.put, List.getElem_toArray, List.getElem_cons_zero, List.getElem_cons_succ, List.setIfInBounds_toArray, List.set_cons_zero, List.set_cons_succ]
          refine wpAnyH_ready (rs := [15]) (by kernel_rfl) (by simp) ?_
          refine AllReadyH.cons rfl (fun K hK => ?_) AllReadyH.nil
          refine step_app1T rfl _ _ 25 54 rfl .i64 i0 _ Try.underlying25 hi hz0 hz1 (by omega) rfl (s + 1) uv xs ((xa : Int), (xb : Int), (xc : Int)) hbig (w := wD) v5 rfl OWv5.out (by rw [HU.out]; rfl) (by have := AIv5.out.sz; omega) HV.out.symm ?_
          intro v' w' ho' hg' hat'
          have AIz : Hid (AI w s (kind : Int) (area : Int) (origin : Int) (pa : Int) (pn : Int) (seq : Int) (age : Int) uv (.slice none 0 0) (cost : Int) (tag : Int) w') := AIv5.out.grown hg'.out (fun g e => (OWv5.out.row.lt g e).1)
          obtain ⟨va', vc', hv'⟩ := ho'.out.form
          obtain ⟨q, hq⟩ : ∃ q, (xs ++ [((xa : Int), (xb : Int), (xc : Int))]).length = q := ⟨_, rfl⟩
          rw [hq] at hv'
          subst hv'
          clear hq hHeld
          have d7 := AIz.out.bx.c7
          have dz := AIz.out.fx 7
          refine hK.out _ _ AIz.out.bel (fun hHeld => ?_)
          clear hK K
          try simp only [Act.put, List.getElem_toArray, List.getElem_cons_zero, List.getElem_cons_succ, List.setIfInBounds_toArray, List.set_cons_zero, List.set_cons_succ]
          refine wpAnyH_take (i := 16) (v := ?_) rfl (by kernel_rfl) (by kernel_rfl) (by kernel_rfl) (fun _ _ _ h => h) (Or.inl ⟨by rfl, ?_⟩) (by assumption) ?_
          case refine_2 => intro W hSw; go_simp; try rfl
          try simp only [Act.put, List.getElem_toArray, List.getElem_cons_zero, List.getElem_cons_succ, List.setIfInBounds_toArray, List.set_cons_zero, List.set_cons_succ]
          refine wpAnyH_ready (rs := [17]) (by kernel_rfl) (by simp) ?_
          refine AllReadyH.cons rfl (fun K hK => ?_) AllReadyH.nil
          have AIy : Hid (AI w s (kind : Int) (area : Int) (origin : Int) (pa : Int) (pn : Int) (seq : Int) (age : Int) (.slice va' q vc') (.slice none 0 0) (cost : Int) (tag : Int) (w'.setCell ⟨s, 7, none⟩ (.slice va' q vc'))) := AIz.out.set7 _
          have OWy := ho'.out.set (i := 7) (u := .slice va' q vc') (Nat.lt_succ_self s)
          go_simp
          refine hK.out _ _ AIy.out.bel (fun hHeld => ?_)
          clear hK K
          try simp only [Act.put, List.getElem_toArray, List.getElem_cons_zero, List.getElem_cons_succ, List.setIfInBounds_toArray, List.set_cons_zero, List.set_cons_succ]
          refine wpAnyH_done (by kernel_rfl) ?_ _
          clear d7 dz hHeld
          go_wp2_with fail
          exact ⟨⟨j + 1, xs ++ [((xa : Int), (xb : Int), (xc : Int))], _, by omega, by simp, by rw [HPN.out], by rw [List.length_append, HXL.out]; rfl, AIy.out, OWy, HNX.out⟩, by simp [intOf]; omega⟩
        · go_simp
          refine (HNUM.out _ hHeld p 4 _ 4 (xa : Int) rfl rfl (by decide) (by omega) Xxa.out).mono ?_
          rintro e w5 ⟨rfl, hw5⟩
          rw [hw5]
          clear hw5 w5
          go_wp2_with fail
          refine hK.out _ _ hHeld (fun hHeld => ?_)
          clear hK K
          try simp only [Act.put, List.getElem_toArray, List.getElem_cons_zero, List.getElem_cons_succ, List.setIfInBounds_toArray, List.set_cons_zero, List.set_cons_succ]
          refine wpAnyH_ready (rs := [1, 8]) (by kernel_rfl) (by simp) ?_
          refine AllReadyH.cons rfl (fun K hK => ?_) (AllReadyH.cons rfl (fun K hK => ?_) AllReadyH.nil)
          · have d7 := AIwD.out.bx.c7
            go_simp
            refine hK.out _ _ hHeld (fun hHeld => ?_)
            clear hK K
            try simp only [Act.put, List.getElem_toArray, List.getElem_cons_zero, List.getElem_cons_succ, List.setIfInBounds_toArray, List.set_cons_zero, List.set_cons_succ]
            clear d7
            refine wpAnyH_ready (rs := [8]) (by kernel_rfl) (by simp) ?_
            refine AllReadyH.cons rfl (fun K hK => ?_) AllReadyH.nil
            go_simp
            refine (HNUM.out _ hHeld p4 2 _ 2 (xb : Int) rfl rfl (by decide) (by omega) Xxb.out).mono ?_
            rintro e w5 ⟨rfl, hw5⟩
            rw [hw5]
            clear hw5 w5
            go_wp2_with fail
            refine hK.out _ _ hHeld (fun hHeld => ?_)
            clear hK K
            try simp only [Act.put, List.getElem_toArray, List.getElem_cons_zero, List.getElem_cons_succ, List.setIfInBounds_toArray, List.set_cons_zero, List.set_cons_succ]
            refine wpAnyH_ready (rs := [12]) (by kernel_rfl) (by simp) ?_
            refine AllReadyH.cons rfl (fun K hK => ?_) AllReadyH.nil
            go_simp
            refine (HNUM.out _ hHeld p6 2 _ 2 (xc : Int) rfl rfl (by decide) (by omega) Xxc.out).mono ?_
            rintro e w5 ⟨rfl, hw5⟩
            rw [hw5]
            clear hw5 w5
            go_wp2_with fail
            refine hK.out _ _ hHeld (fun hHeld => ?_)
            clear hK K
            try simp only [Act.put, List.getElem_toArray, List.getElem_cons_zero, List.getElem_cons_succ, List.setIfInBounds_toArray, List.set_cons_zero, List.set_cons_succ]
            refine wpAnyH_take (i := 13) (v := ?_) rfl (by kernel_rfl) (by kernel_rfl) (by kernel_rfl) (fun _ _ _ h => h) (Or.inl ⟨by rfl, ?_⟩) (by assumption) ?_
            case refine_2 => intro W hSw; go_simp; try rfl
            try simp only [Act.put, List.getElem_toArray, List.getElem_cons_zero, List.getElem_cons_succ, List.setIfInBounds_toArray, List.set_cons_zero, List.set_cons_succ]
            refine wpAnyH_ready (rs := [14]) (by kernel_rfl) (by simp) ?_
            refine AllReadyH.cons rfl (fun K hK => ?_) AllReadyH.nil
            go_simp
            obtain ⟨v10, hV⟩ : ∃ v10, wD.alloc (Obj.cells #[.int .i64 (xa : Int), .int .i64 (xb : Int), .int .i64 (xc : Int)] 54) = v10 := ⟨_, rfl⟩
            have hbV : Below wD.heap.size wD v10 := by rw [← hV]; exact (Below.refl _ wD).alloc (Nat.le_refl _) _
            have AIv10 : Hid (AI w s (kind : Int) (area : Int) (origin : Int) (pa : Int) (pn : Int) (seq : Int) (age : Int) uv (.slice none 0 0) (cost : Int) (tag : Int) v10) := AIwD.out.next hbV
            have OWv10 : Hid (OwnT (s + 1) 54 .i64 v10 uv xs) := OWwD.out.bel hbV
            have HV : Hid (wD.alloc (Obj.cells #[.int .i64 (xa : Int), .int .i64 (xb : Int), .int .i64 (xc : Int)] 54) = v10) := hV
            obtain ⟨u, hu⟩ : ∃ u, wD.heap.size = u := ⟨_, rfl⟩
            have HU : Hid (wD.heap.size = u) := hu
            rw [hV, hu]
            clear hV hbV hu hHeld
            refine hK.out _ _ AIv10.out.bel (fun hHeld => ?_)
            clear hK K
            try simp only [Act.put, List.getElem_toArray, List.getElem_cons_zero, List.getElem_cons_succ, List.setIfInBounds_toArray, List.set_cons_zero, List.set_cons_succ]
            refine wpAnyH_ready (rs := [15]) (by kernel_rfl) (by simp) ?_
            refine AllReadyH.cons rfl (fun K hK => ?_) AllReadyH.nil
            refine step_app1T rfl _ _ 25 54 rfl .i64 i0 _ Try.underlying25 hi hz0 hz1 (by omega) rfl (s + 1) uv xs ((xa : Int), (xb : Int), (xc : Int)) hbig (w := wD) v10 rfl OWv10.out (by rw [HU.out]; rfl) (by have := AIv10.out.sz; omega) HV.out.symm ?_
            intro v' w' ho' hg' hat'
            have AIz : Hid (AI w s (kind : Int) (area : Int) (origin : Int) (pa : Int) (pn : Int) (seq : Int) (age : Int) uv (.slice none 0 0) (cost : Int) (tag : Int) w') := AIv10.out.grown hg'.out (fun g e => (OWv10.out.row.lt g e).1)
            obtain ⟨va', vc', hv'⟩ := ho'.out.form
            obtain ⟨q, hq⟩ : ∃ q, (xs ++ [((xa : Int), (xb : Int), (xc : Int))]).length = q := ⟨_, rfl⟩
            rw [hq] at hv'
            subst hv'
            clear hq hHeld
            have d7 := AIz.out.bx.c7
            have dz := AIz.out.fx 7
            refine hK.out _ _ AIz.out.bel (fun hHeld => ?_)
            clear hK K
            try simp only [Act.put, List.getElem_toArray, List.getElem_cons_zero, List.getElem_cons_succ, List.setIfInBounds_toArray, List.set_cons_zero, List.set_cons_succ]
            refine wpAnyH_take (i := 16) (v := ?_) rfl (by kernel_rfl) (by kernel_rfl) (by kernel_rfl) (fun _ _ _ h => h) (Or.inl ⟨by rfl, ?_⟩) (by assumption) ?_
            case refine_2 => intro W hSw; go_simp; try rfl
            try simp only [Act.put, List.getElem_toArray, List.getElem_cons_zero, List.getElem_cons_succ, List.setIfInBounds_toArray, List.set_cons_zero, List.set_cons_succ]
            refine wpAnyH_ready (rs := [17]) (by kernel_rfl) (by simp) ?_
            refine AllReadyH.cons rfl (fun K hK => ?_) AllReadyH.nil
            have AIy : Hid (AI w s (kind : Int) (area : Int) (origin : Int) (pa : Int) (pn : Int) (seq : Int) (age : Int) (.slice va' q vc') (.slice none 0 0) (cost : Int) (tag : Int) (w'.setCell ⟨s, 7, none⟩ (.slice va' q vc'))) := AIz.out.set7 _
            have OWy := ho'.out.set (i := 7) (u := .slice va' q vc') (Nat.lt_succ_self s)
            go_simp
            refine hK.out _ _ AIy.out.bel (fun hHeld => ?_)
            clear hK K
            try simp only [Act.put, List.getElem_toArray, List.getElem_cons_zero, List.getElem_cons_succ, List.setIfInBounds_toArray, List.set_cons_zero, List.set_cons_succ]
            refine wpAnyH_done (by kernel_rfl) ?_ _
            clear d7 dz hHeld
            go_wp2_with fail
            exact ⟨⟨j + 1, xs ++ [((xa : Int), (xb : Int), (xc : Int))], _, by omega, by simp, by rw [HPN.out], by rw [List.length_append, HXL.out]; rfl, AIy.out, OWy, HNX.out⟩, by simp [intOf]; omega⟩
          · go_simp
            refine (HNUM.out _ hHeld p4 2 _ 2 (xb : Int) rfl rfl (by decide) (by omega) Xxb.out).mono ?_
            rintro e w5 ⟨rfl, hw5⟩
            rw [hw5]
            clear hw5 w5
            go_wp2_with fail
            refine hK.out _ _ hHeld (fun hHeld => ?_)
            clear hK K
            try simp only [Act.put, List.getElem_toArray, List.getElem_cons_zero, List.getElem_cons_succ, List.setIfInBounds_toArray, List.set_cons_zero, List.set_cons_succ]
            refine wpAnyH_ready (rs := [1, 12]) (by kernel_rfl) (by simp) ?_
            refine AllReadyH.cons rfl (fun K hK => ?_) (AllReadyH.cons rfl (fun K hK => ?_) AllReadyH.nil)
            · have d7 := AIwD.out.bx.c7
              go_simp
              refine hK.out _ _ hHeld (fun hHeld => ?_)
              clear hK K
              try simp only [Act.put, List.getElem_toArray, List.getElem_cons_zero, List.getElem_cons_succ, List.setIfInBounds_toArray, List.set_cons_zero, List.set_cons_succ]
              clear d7
              refine wpAnyH_ready (rs := [12]) (by kernel_rfl) (by simp) ?_
              refine AllReadyH.cons rfl (fun K hK => ?_) AllReadyH.nil
              go_simp
              refine (HNUM.out _ hHeld p6 2 _ 2 (xc : Int) rfl rfl (by decide) (by omega) Xxc.out).mono ?_
              rintro e w5 ⟨rfl, hw5⟩
              rw [hw5]
              clear hw5 w5
              go_wp2_with fail
              refine hK.out _ _ hHeld (fun hHeld => ?_)
              clear hK K
              try simp only [Act.put, List.getElem_toArray, List.getElem_cons_zero, List.getElem_cons_succ, List.setIfInBounds_toArray, List.set_cons_zero, List.set_cons_succ]
              refine wpAnyH_take (i := 13) (v := ?_) rfl (by kernel_rfl) (by kernel_rfl) (by kernel_rfl) (fun _ _ _ h => h) (Or.inl ⟨by rfl, ?_⟩) (by assumption) ?_
              case refine_2 => intro W hSw; go_simp; try rfl
              try simp only [Act.put, List.getElem_toArray, List.getElem_cons_zero, List.getElem_cons_succ, List.setIfInBounds_toArray, List.set_cons_zero, List.set_cons_succ]
              refine wpAnyH_ready (rs := [14]) (by kernel_rfl) (by simp) ?_
              refine AllReadyH.cons rfl (fun K hK => ?_) AllReadyH.nil
              go_simp
              obtain ⟨v14, hV⟩ : ∃ v14, wD.alloc (Obj.cells #[.int .i64 (xa : Int), .int .i64 (xb : Int), .int .i64 (xc : Int)] 54) = v14 := ⟨_, rfl⟩
              have hbV : Below wD.heap.size wD v14 := by rw [← hV]; exact (Below.refl _ wD).alloc (Nat.le_refl _) _
              have AIv14 : Hid (AI w s (kind : Int) (area : Int) (origin : Int) (pa : Int) (pn : Int) (seq : Int) (age : Int) uv (.slice none 0 0) (cost : Int) (tag : Int) v14) := AIwD.out.next hbV
              have OWv14 : Hid (OwnT (s + 1) 54 .i64 v14 uv xs) := OWwD.out.bel hbV
              have HV : Hid (wD.alloc (Obj.cells #[.int .i64 (xa : Int), .int .i64 (xb : Int), .int .i64 (xc : Int)] 54) = v14) := hV
              obtain ⟨u, hu⟩ : ∃ u, wD.heap.size = u := ⟨_, rfl⟩
              have HU : Hid (wD.heap.size = u) := hu
              rw [hV, hu]
              clear hV hbV hu hHeld
              refine hK.out _ _ AIv14.out.bel (fun hHeld => ?_)
              clear hK K
              try simp only [Act.put, List.getElem_toArray, List.getElem_cons_zero, List.getElem_cons_succ, List.setIfInBounds_toArray, List.set_cons_zero, List.set_cons_succ]
              refine wpAnyH_ready (rs := [15]) (by kernel_rfl) (by simp) ?_
              refine AllReadyH.cons rfl (fun K hK => ?_) AllReadyH.nil
              refine step_app1T rfl _ _ 25 54 rfl .i64 i0 _ Try.underlying25 hi hz0 hz1 (by omega) rfl (s + 1) uv xs ((xa : Int), (xb : Int), (xc : Int)) hbig (w := wD) v14 rfl OWv14.out (by rw [HU.out]; rfl) (by have := AIv14.out.sz; omega) HV.out.symm ?_
              intro v' w' ho' hg' hat'
              have AIz : Hid (AI w s (kind : Int) (area : Int) (origin : Int) (pa : Int) (pn : Int) (seq : Int) (age : Int) uv (.slice none 0 0) (cost : Int) (tag : Int) w') := AIv14.out.grown hg'.out (fun g e => (OWv14.out.row.lt g e).1)
              obtain ⟨va', vc', hv'⟩ := ho'.out.form
              obtain ⟨q, hq⟩ : ∃ q, (xs ++ [((xa : Int), (xb : Int), (xc : Int))]).length = q := ⟨_, rfl⟩
              rw [hq] at hv'
              subst hv'
              clear hq hHeld
              have d7 := AIz.out.bx.c7
              have dz := AIz.out.fx 7
              refine hK.out _ _ AIz.out.bel (fun hHeld => ?_)
              clear hK K
              try simp only [Act.put, List.getElem_toArray, List.getElem_cons_zero, List.getElem_cons_succ, List.setIfInBounds_toArray, List.set_cons_zero, List.set_cons_succ]
              refine wpAnyH_take (i := 16) (v := ?_) rfl (by kernel_rfl) (by kernel_rfl) (by kernel_rfl) (fun _ _ _ h => h) (Or.inl ⟨by rfl, ?_⟩) (by assumption) ?_
              case refine_2 => intro W hSw; go_simp; try rfl
              try simp only [Act.put, List.getElem_toArray, List.getElem_cons_zero, List.getElem_cons_succ, List.setIfInBounds_toArray, List.set_cons_zero, List.set_cons_succ]
              refine wpAnyH_ready (rs := [17]) (by kernel_rfl) (by simp) ?_
              refine AllReadyH.cons rfl (fun K hK => ?_) AllReadyH.nil
              have AIy : Hid (AI w s (kind : Int) (area : Int) (origin : Int) (pa : Int) (pn : Int) (seq : Int) (age : Int) (.slice va' q vc') (.slice none 0 0) (cost : Int) (tag : Int) (w'.setCell ⟨s, 7, none⟩ (.slice va' q vc'))) := AIz.out.set7 _
              have OWy := ho'.out.set (i := 7) (u := .slice va' q vc') (Nat.lt_succ_self s)
              go_simp
              refine hK.out _ _ AIy.out.bel (fun hHeld => ?_)
              clear hK K
              try simp only [Act.put, List.getElem_toArray, List.getElem_cons_zero, List.getElem_cons_succ, List.setIfInBounds_toArray, List.set_cons_zero, List.set_cons_succ]
              refine wpAnyH_done (by kernel_rfl) ?_ _
              clear d7 dz hHeld
              go_wp2_with fail
              exact ⟨⟨j + 1, xs ++ [((xa : Int), (xb : Int), (xc : Int))], _, by omega, by simp, by rw [HPN.out], by rw [List.length_append, HXL.out]; rfl, AIy.out, OWy, HNX.out⟩, by simp [intOf]; omega⟩
            · go_simp
              refine (HNUM.out _ hHeld p6 2 _ 2 (xc : Int) rfl rfl (by decide) (by omega) Xxc.out).mono ?_
              rintro e w5 ⟨rfl, hw5⟩
              rw [hw5]
              clear hw5 w5
              go_wp2_with fail
              refine hK.out _ _ hHeld (fun hHeld => ?_)
              clear hK K
              try simp only [Act.put, List.getElem_toArray, List.getElem_cons_zero, List.getElem_cons_succ, List.setIfInBounds_toArray, List.set_cons_zero, List.set_cons_succ]
              refine wpAnyH_take (i := 13) (v := ?_) rfl (by kernel_rfl) (by kernel_rfl) (by kernel_rfl) (fun _ _ _ h => h) (Or.inl ⟨by rfl, ?_⟩) (by assumption) ?_
              case refine_2 => intro W hSw; go_simp; try rfl
              try simp only [Act.put, List.getElem_toArray, List.getElem_cons_zero, List.getElem_cons_succ, List.setIfInBounds_toArray, List.set_cons_zero, List.set_cons_succ]
              refine wpAnyH_ready (rs := [1, 14]) (by kernel_rfl) (by simp) ?_
              refine AllReadyH.cons rfl (fun K hK => ?_) (AllReadyH.cons rfl (fun K hK => ?_) AllReadyH.nil)
              · have d7 := AIwD.out.bx.c7
                go_simp
                refine hK.out _ _ hHeld (fun hHeld => ?_)
                clear hK K
                try simp only [Act.put, List.getElem_toArray, List.getElem_cons_zero, List.getElem_cons_succ, List.setIfInBounds_toArray, List.set_cons_zero, List.set_cons_succ]
                clear d7
                refine wpAnyH_ready (rs := [14]) (by kernel_rfl) (by simp) ?_
                refine AllReadyH.cons rfl (fun K hK => ?_) AllReadyH.nil
                go_simp
                obtain ⟨v17, hV⟩ : ∃ v17, wD.alloc (Obj.cells #[.int .i64 (xa : Int), .int .i64 (xb : Int), .int .i64 (xc : Int)] 54) = v17 := ⟨_, rfl⟩
                have hbV : Below wD.heap.size wD v17 := by rw [← hV]; exact (Below.refl _ wD).alloc (Nat.le_refl _) _
                have AIv17 : Hid (AI w s (kind : Int) (area : Int) (origin : Int) (pa : Int) (pn : Int) (seq : Int) (age : Int) uv (.slice none 0 0) (cost : Int) (tag : Int) v17) := AIwD.out.next hbV
                have OWv17 : Hid (OwnT (s + 1) 54 .i64 v17 uv xs) := OWwD.out.bel hbV
                have HV : Hid (wD.alloc (Obj.cells #[.int .i64 (xa : Int), .int .i64 (xb : Int), .int .i64 (xc : Int)] 54) = v17) := hV
                obtain ⟨u, hu⟩ : ∃ u, wD.heap.size = u := ⟨_, rfl⟩
                have HU : Hid (wD.heap.size = u) := hu
                rw [hV, hu]
                clear hV hbV hu hHeld
                refine hK.out _ _ AIv17.out.bel (fun hHeld => ?_)
                clear hK K
                try simp only [Act.put, List.getElem_toArray, List.getElem_cons_zero, List.getElem_cons_succ, List.setIfInBounds_toArray, List.set_cons_zero, List.set_cons_succ]
                refine wpAnyH_ready (rs := [15]) (by kernel_rfl) (by simp) ?_
                refine AllReadyH.cons rfl (fun K hK => ?_) AllReadyH.nil
                refine step_app1T rfl _ _ 25 54 rfl .i64 i0 _ Try.underlying25 hi hz0 hz1 (by omega) rfl (s + 1) uv xs ((xa : Int), (xb : Int), (xc : Int)) hbig (w := wD) v17 rfl OWv17.out (by rw [HU.out]; rfl) (by have := AIv17.out.sz; omega) HV.out.symm ?_
                intro v' w' ho' hg' hat'
                have AIz : Hid (AI w s (kind : Int) (area : Int) (origin : Int) (pa : Int) (pn : Int) (seq : Int) (age : Int) uv (.slice none 0 0) (cost : Int) (tag : Int) w') := AIv17.out.grown hg'.out (fun g e => (OWv17.out.row.lt g e).1)
                obtain ⟨va', vc', hv'⟩ := ho'.out.form
                obtain ⟨q, hq⟩ : ∃ q, (xs ++ [((xa : Int), (xb : Int), (xc : Int))]).length = q := ⟨_, rfl⟩
                rw [hq] at hv'
                subst hv'
                clear hq hHeld
                have d7 := AIz.out.bx.c7
                have dz := AIz.out.fx 7
                refine hK.out _ _ AIz.out.bel (fun hHeld => ?_)
                clear hK K
                try simp only [Act.put, List.getElem_toArray, List.getElem_cons_zero, List.getElem_cons_succ, List.setIfInBounds_toArray, List.set_cons_zero, List.set_cons_succ]
                refine wpAnyH_take (i := 16) (v := ?_) rfl (by kernel_rfl) (by kernel_rfl) (by kernel_rfl) (fun _ _ _ h => h) (Or.inl ⟨by rfl, ?_⟩) (by assumption) ?_
                case refine_2 => intro W hSw; go_simp; try rfl
                try simp only [Act.put, List.getElem_toArray, List.getElem_cons_zero, List.getElem_cons_succ, List.setIfInBounds_toArray, List.set_cons_zero, List.set_cons_succ]
                refine wpAnyH_ready (rs := [17]) (by kernel_rfl) (by simp) ?_
                refine AllReadyH.cons rfl (fun K hK => ?_) AllReadyH.nil
                have AIy : Hid (AI w s (kind : Int) (area : Int) (origin : Int) (pa : Int) (pn : Int) (seq : Int) (age : Int) (.slice va' q vc') (.slice none 0 0) (cost : Int) (tag : Int) (w'.setCell ⟨s, 7, none⟩ (.slice va' q vc'))) := AIz.out.set7 _
                have OWy := ho'.out.set (i := 7) (u := .slice va' q vc') (Nat.lt_succ_self s)
                go_simp
                refine hK.out _ _ AIy.out.bel (fun hHeld => ?_)
                clear hK K
                try simp only [Act.put, List.getElem_toArray, List.getElem_cons_zero, List.getElem_cons_succ, List.setIfInBounds_toArray, List.set_cons_zero, List.set_cons_succ]
                refine wpAnyH_done (by kernel_rfl) ?_ _
                clear d7 dz hHeld
                go_wp2_with fail
                exact ⟨⟨j + 1, xs ++ [((xa : Int), (xb : Int), (xc : Int))], _, by omega, by simp, by rw [HPN.out], by rw [List.length_append, HXL.out]; rfl, AIy.out, OWy, HNX.out⟩, by simp [intOf]; omega⟩
              · go_simp
                obtain ⟨v18, hV⟩ : ∃ v18, wD.alloc (Obj.cells #[.int .i64 (xa : Int), .int .i64 (xb : Int), .int .i64 (xc : Int)] 54) = v18 := ⟨_, rfl⟩
                have hbV : Below wD.heap.size wD v18 := by rw [← hV]; exact (Below.refl _ wD).alloc (Nat.le_refl _) _
                have AIv18 : Hid (AI w s (kind : Int) (area : Int) (origin : Int) (pa : Int) (pn : Int) (seq : Int) (age : Int) uv (.slice none 0 0) (cost : Int) (tag : Int) v18) := AIwD.out.next hbV
                have OWv18 : Hid (OwnT (s + 1) 54 .i64 v18 uv xs) := OWwD.out.bel hbV
                have HV : Hid (wD.alloc (Obj.cells #[.int .i64 (xa : Int), .int .i64 (xb : Int), .int .i64 (xc : Int)] 54) = v18) := hV
                obtain ⟨u, hu⟩ : ∃ u, wD.heap.size = u := ⟨_, rfl⟩
                have HU : Hid (wD.heap.size = u) := hu
                rw [hV, hu]
                clear hV hbV hu hHeld
                refine hK.out _ _ AIv18.out.bel (fun hHeld => ?_)
                clear hK K
                try simp only [Act.put, List.getElem_toArray, List.getElem_cons_zero, List.getElem_cons_succ, List.setIfInBounds_toArray, List.set_cons_zero, List.set_cons_succ]
                refine wpAnyH_ready (rs := [1]) (by kernel_rfl) (by simp) ?_
                refine AllReadyH.cons rfl (fun K hK => ?_) AllReadyH.nil
                have d7 := AIv18.out.bx.c7
                go_simp
                refine hK.out _ _ hHeld (fun hHeld => ?_)
                clear hK K
                try simp only [Act.put, List.getElem_toArray, List.getElem_cons_zero, List.getElem_cons_succ, List.setIfInBounds_toArray, List.set_cons_zero, List.set_cons_succ]
                clear d7
                refine wpAnyH_ready (rs := [15]) (by kernel_rfl) (by simp) ?_
                refine AllReadyH.cons rfl (fun K hK => ?_) AllReadyH.nil
                refine step_app1T rfl _ _ 25 54 rfl .i64 i0 _ Try.underlying25 hi hz0 hz1 (by omega) rfl (s + 1) uv xs ((xa : Int), (xb : Int), (xc : Int)) hbig (w := wD) v18 rfl OWv18.out (by rw [HU.out]; rfl) (by have := AIv18.out.sz; omega) HV.out.symm ?_
                intro v' w' ho' hg' hat'
                have AIz : Hid (AI w s (kind : Int) (area : Int) (origin : Int) (pa : Int) (pn : Int) (seq : Int) (age : Int) uv (.slice none 0 0) (cost : Int) (tag : Int) w') := AIv18.out.grown hg'.out (fun g e => (OWv18.out.row.lt g e).1)
                obtain ⟨va', vc', hv'⟩ := ho'.out.form
                obtain ⟨q, hq⟩ : ∃ q, (xs ++ [((xa : Int), (xb : Int), (xc : Int))]).length = q := ⟨_, rfl⟩
                rw [hq] at hv'
                subst hv'
                clear hq hHeld
                have d7 := AIz.out.bx.c7
                have dz := AIz.out.fx 7
                refine hK.out _ _ AIz.out.bel (fun hHeld => ?_)
                clear hK K
                try simp only [Act.put, List.getElem_toArray, List.getElem_cons_zero, List.getElem_cons_succ, List.setIfInBounds_toArray, List.set_cons_zero, List.set_cons_succ]
                refine wpAnyH_take (i := 16) (v := ?_) rfl (by kernel_rfl) (by kernel_rfl) (by kernel_rfl) (fun _ _ _ h => h) (Or.inl ⟨by rfl, ?_⟩) (by assumption) ?_
                case refine_2 => intro W hSw; go_simp; try rfl
                try simp only [Act.put, List.getElem_toArray, List.getElem_cons_zero, List.getElem_cons_succ, List.setIfInBounds_toArray, List.set_cons_zero, List.set_cons_succ]
                refine wpAnyH_ready (rs := [17]) (by kernel_rfl) (by simp) ?_
                refine AllReadyH.cons rfl (fun K hK => ?_) AllReadyH.nil
                have AIy : Hid (AI w s (kind : Int) (area : Int) (origin : Int) (pa : Int) (pn : Int) (seq : Int) (age : Int) (.slice va' q vc') (.slice none 0 0) (cost : Int) (tag : Int) (w'.setCell ⟨s, 7, none⟩ (.slice va' q vc'))) := AIz.out.set7 _
                have OWy := ho'.out.set (i := 7) (u := .slice va' q vc') (Nat.lt_succ_self s)
                go_simp
                refine hK.out _ _ AIy.out.bel (fun hHeld => ?_)
                clear hK K
                try simp only [Act.put, List.getElem_toArray, List.getElem_cons_zero, List.getElem_cons_succ, List.setIfInBounds_toArray, List.set_cons_zero, List.set_cons_succ]
                refine wpAnyH_done (by kernel_rfl) ?_ _
                clear d7 dz hHeld
                go_wp2_with fail
                exact ⟨⟨j + 1, xs ++ [((xa : Int), (xb : Int), (xc : Int))], _, by omega, by simp, by rw [HPN.out], by rw [List.length_append, HXL.out]; rfl, AIy.out, OWy, HNX.out⟩, by simp [intOf]; omega⟩
      · obtain rfl : nl = j := by omega
        have HE : Hid (xs = LL.1 ∧ (bs.drop p, false) = LL.2) := by
          have h1 := HD.out
          rw [Nat.sub_self] at h1
          exact ⟨by have h2 := h1.1; simp [decN] at h2; exact h2, h1.2⟩
        obtain ⟨hx1, hrk⟩ := HE.out
        subst hx1
        have HS2 : Hid (decN decSt ns (bs.drop p, false) = S) := by rw [hrk]; exact HS.out
        have hfit2 : p + 7 * ns ≤ L := by omega
        obtain ⟨lv, rfl⟩ : ∃ lv, lv = uv := ⟨_, rfl⟩
        have HOX : Hid (OwnT (s + 1) 54 .i64 wr lv LL.1) := HOW.out
        have HA5 : Hid (AI w s (kind : Int) (area : Int) (origin : Int) (pa : Int) (pn : Int) (seq : Int) (age : Int) lv (.slice none 0 0) (cost : Int) (tag : Int) wr) := HAI.out
        obtain ⟨B, hB⟩ : ∃ B, B = p := ⟨_, rfl⟩
        subst hB
        clear hrk HE HOW HAI HD HS HLL hp hfit
        go_wp2_with fail
        go_loopw [1, 9] (fun av iv wr => ∃ (j : Nat) (xs : List (Int × Int × Int)) (uv : Value), j ≤ ns ∧ iv = .int .i64 (j : Int) ∧ av = .int .i64 ((B + 7 * j : Nat) : Int) ∧ xs.length = j ∧ AI w s (kind : Int) (area : Int) (origin : Int) (pa : Int) (pn : Int) (seq : Int) (age : Int) lv uv (cost : Int) (tag : Int) wr ∧ OwnT (s + 1) 56 .u32 wr uv xs ∧ OwnT (s + 1) 54 .i64 wr lv LL.1 ∧ (∀ g, lv.ownBlock = some g → ¬ uv.ownBlock = some g) ∧ (xs ++ (decN decSt (ns - j) (bs.drop (B + 7 * j), false)).1 = S.1 ∧ (decN decSt (ns - j) (bs.drop (B + 7 * j), false)).2 = S.2) ∧ S32 xs) (fun _ i _ => ns - (intOf i).toNat)
        case atStart => exact ⟨0, [], .slice none 0 0, by omega, rfl, rfl, rfl, HA5.out, ownT_none _ _ _ _, HOX.out, (fun g _ e => by cases e), (by rw [Nat.sub_zero, Nat.mul_zero, Nat.add_zero, HS2.out]; exact ⟨rfl, rfl⟩), fun d hd => by cases hd⟩
        case round =>
          obtain ⟨j, xs, uv, hj, rfl, rfl, hxl, hai, how, hox, hap, hdec, hxi⟩ := hrel
          have HAI : Hid (AI w s (kind : Int) (area : Int) (origin : Int) (pa : Int) (pn : Int) (seq : Int) (age : Int) lv uv (cost : Int) (tag : Int) wr) := hai
          have HOW : Hid (OwnT (s + 1) 56 .u32 wr uv xs) := how
          have HOX : Hid (OwnT (s + 1) 54 .i64 wr lv LL.1) := hox
          have HAP : Hid (∀ g, lv.ownBlock = some g → ¬ uv.ownBlock = some g) := hap
          have HXJ : Hid (S32 xs) := hxi
          have HXL : Hid (xs.length = j) := hxl
          have HD : Hid (xs ++ (decN decSt (ns - j) (bs.drop (B + 7 * j), false)).1 = S.1 ∧ (decN decSt (ns - j) (bs.drop (B + 7 * j), false)).2 = S.2) := hdec
          clear hai how hxl hdec hox hap hxi HA5
          obtain ⟨p, hp⟩ : ∃ p, B + 7 * j = p := ⟨_, rfl⟩
          rw [hp] at HD ⊢
          by_cases hlt : j < ns
          · have hbig : xs.length ≤ 1048576 := by rw [HXL.out]; omega
            have hpL : p + 7 ≤ L := by omega
            obtain ⟨p4, hp4⟩ : ∃ q, p + 4 = q := ⟨_, rfl⟩
            obtain ⟨p5, hp5⟩ : ∃ q, p + 5 = q := ⟨_, rfl⟩
            obtain ⟨p7, hp7⟩ : ∃ q, p + 7 = q := ⟨_, rfl⟩
            have hy := decSt_at HLX.out hpL
            rw [hp4, hp5, hp7] at hy
            obtain ⟨xa, hxa⟩ : ∃ x, num ((bs.drop p).take 4) = x := ⟨_, rfl⟩
            obtain ⟨xb, hxb⟩ : ∃ x, num ((bs.drop p4).take 1) = x := ⟨_, rfl⟩
            obtain ⟨xc, hxc⟩ : ∃ x, num ((bs.drop p5).take 2) = x := ⟨_, rfl⟩
            rw [hxa, hxb, hxc] at hy
            have hxal : xa < 4294967296 := by rw [← hxa]; exact num_lt (fun d hd => HX.out.u8 d (List.mem_of_mem_drop hd)) 4 (by rw [List.length_drop, HLX.out]; omega)
            have Xxa : Hid (((num ((bs.drop p).take 4) : Nat) : Int) = (xa : Int)) := by rw [hxa]; exact rfl
            have Xxb : Hid (((num ((bs.drop p4).take 1) : Nat) : Int) = (xb : Int)) := by rw [hxb]; exact rfl
            have Xxc : Hid (((num ((bs.drop p5).take 2) : Nat) : Int) = (xc : Int)) := by rw [hxc]; exact rfl
            have HPN : Hid (B + 7 * (j + 1) = p7) := by show _ = _; omega
            have HNX : Hid ((xs ++ [((xa : Int), (xb : Int), (xc : Int))]) ++ (decN decSt (ns - (j + 1)) (bs.drop (B + 7 * (j + 1)), false)).1 = S.1 ∧ (decN decSt (ns - (j + 1)) (bs.drop (B + 7 * (j + 1)), false)).2 = S.2) := by
              have h1 := decN_snoc (r := (bs.drop p, false)) hlt HD.out
              rw [hy] at h1
              rw [HPN.out]
              exact h1
            have HXI : Hid (S32 (xs ++ [((xa : Int), (xb : Int), (xc : Int))])) := by
              intro d hd
              rcases List.mem_append.1 hd with h1 | h1
              · exact HXJ.out d h1
              · rw [List.mem_singleton] at h1
                subst h1
                show 0 ≤ (xa : Int) ∧ (xa : Int) < 4294967296
                omega
            have hux : IntKind.u32.wrap (xa : Int) = (xa : Int) := u32_in (by omega) (by omega)
            have hw4 : IntKind.i64.wrap ((p : Int) + 4) = (p4 : Int) := by rw [IntWalk.i64_in _ (by omega)]; omega
            have hw5 : IntKind.i64.wrap ((p : Int) + 5) = (p5 : Int) := by rw [IntWalk.i64_in _ (by omega)]; omega
            have hw7 : IntKind.i64.wrap ((p : Int) + 7) = (p7 : Int) := by rw [IntWalk.i64_in _ (by omega)]; omega
            have hjj : (j : Int) < ns := by omega
            clear HD hy hxa hxb hxc hp
            obtain ⟨i0, hi, hz0, hz1, hz2⟩ := info_parts infoSt
            go_wp2_with fail
            refine wp_region_held_drew (S := fun W => Below w.heap.size w W) (by kernel_rfl) (HAI.out.bel.trans ((drew_bel wr).mono HAI.out.bel.size)) (fun hHeld => ?_)
            obtain ⟨wD, hwD⟩ : ∃ wD, wr.drew = wD := ⟨_, rfl⟩
            rw [hwD] at hHeld ⊢
            have AIwD : Hid (AI w s (kind : Int) (area : Int) (origin : Int) (pa : Int) (pn : Int) (seq : Int) (age : Int) lv uv (cost : Int) (tag : Int) wD) := by rw [← hwD]; exact HAI.out.next (drew_bel wr)
            have OWwD : Hid (OwnT (s + 1) 56 .u32 wD uv xs) := by rw [← hwD]; exact HOW.out.bel (drew_bel wr)
            have OXwD : Hid (OwnT (s + 1) 54 .i64 wD lv LL.1) := by rw [← hwD]; exact HOX.out.bel (drew_bel wr)
            clear hwD
            refine wpAnyH_take (i := 0) (v := ?_) rfl (by kernel_rfl) (by kernel_rfl) (by kernel_rfl) (fun _ _ _ h => h) (Or.inl ⟨by rfl, ?_⟩) (by assumption) ?_
            case refine_2 => intro W hSw; go_simp; try rfl
            try simp only [Act.put, List.getElem_toArray, List.getElem_cons_zero, List.setIfInBounds_toArray, List.set_cons_zero, List.set_cons_succ]
            refine wpAnyH_take (i := 2) (v := ?_) rfl (by kernel_rfl) (by kernel_rfl) (by kernel_rfl) (fun _ _ _ h => h) (Or.inl ⟨by rfl, ?_⟩) (by assumption) ?_
            case refine_2 => intro W hSw; go_simp; try rfl
            try simp only [Act.put, List.getElem_toArray, List.getElem_cons_zero, List.getElem_cons_succ, List.setIfInBounds_toArray, List.set_cons_zero, List.set_cons_succ]
            refine wpAnyH_take (i := 3) (v := ?_) rfl (by kernel_rfl) (by kernel_rfl) (by kernel_rfl) (fun _ _ _ h => h) (Or.inl ⟨by rfl, ?_⟩) (by assumption) ?_
            case refine_2 => intro W hSw; go_simp; try rfl
            try simp only [Act.put, List.getElem_toArray, List.getElem_cons_zero, List.getElem_cons_succ, List.setIfInBounds_toArray, List.set_cons_zero, List.set_cons_succ]
            refine wpAnyH_take (i := 6) (v := ?_) rfl (by kernel_rfl) (by kernel_rfl) (by kernel_rfl) (fun _ _ _ h => h) (Or.inl ⟨by rfl, ?_⟩) (by assumption) ?_
            case refine_2 => intro W hSw; go_simp; try rfl
            try simp only [Act.put, List.getElem_toArray, List.getElem_cons_zero, List.getElem_cons_succ, List.setIfInBounds_toArray, List.set_cons_zero, List.set_cons_succ]
            refine wpAnyH_take (i := 7) (v := ?_) rfl (by kernel_rfl) (by kernel_rfl) (by kernel_rfl) (fun _ _ _ h => h) (Or.inl ⟨by rfl, ?_⟩) (by assumption) ?_
            case refine_2 => intro W hSw; go_simp; try rfl
            try simp only [Act.put, List.getElem_toArray, List.getElem_cons_zero, List.getElem_cons_succ, List.setIfInBounds_toArray, List.set_cons_zero, List.set_cons_succ]
            refine wpAnyH_take (i := 8) (v := ?_) rfl (by kernel_rfl) (by kernel_rfl) (by kernel_rfl) (fun _ _ _ h => h) (Or.inl ⟨by rfl, ?_⟩) (by assumption) ?_
            case refine_2 => intro W hSw; go_simp; try rfl
            try simp only [Act.put, List.getElem_toArray, List.getElem_cons_zero, List.getElem_cons_succ, List.setIfInBounds_toArray, List.set_cons_zero, List.set_cons_succ]
            refine wpAnyH_take (i := 11) (v := ?_) rfl (by kernel_rfl) (by kernel_rfl) (by kernel_rfl) (fun _ _ _ h => h) (Or.inl ⟨by rfl, ?_⟩) (by assumption) ?_
            case refine_2 => intro W hSw; go_simp; try rfl
            try simp only [Act.put, List.getElem_toArray, List.getElem_cons_zero, List.getElem_cons_succ, List.setIfInBounds_toArray, List.set_cons_zero, List.set_cons_succ]
            refine wpAnyH_take (i := 12) (v := ?_) rfl (by kernel_rfl) (by kernel_rfl) (by kernel_rfl) (fun _ _ _ h => h) (Or.inl ⟨by rfl, ?_⟩) (by assumption) ?_
            case refine_2 => intro W hSw; go_simp; try rfl
            try simp only [Act.put, List.getElem_toArray, List.getElem_cons_zero, List.getElem_cons_succ, List.setIfInBounds_toArray, List.set_cons_zero, List.set_cons_succ]
            refine wpAnyH_take (i := 13) (v := ?_) rfl (by kernel_rfl) (by kernel_rfl) (by kernel_rfl) (fun _ _ _ h => h) (Or.inl ⟨by rfl, ?_⟩) (by assumption) ?_
            case refine_2 => intro W hSw; go_simp; try rfl
            try simp only [Act.put, List.getElem_toArray, List.getElem_cons_zero, List.getElem_cons_succ, List.setIfInBounds_toArray, List.set_cons_zero, List.set_cons_succ]
            refine wpAnyH_ready (rs := [1, 4]) (by kernel_rfl) (by simp) ?_
            refine AllReadyH.cons rfl (fun K hK => ?_) (AllReadyH.cons rfl (fun K hK => ?_) AllReadyH.nil)
            · have d8 := AIwD.out.bx.c8
              go_simp
              refine hK.out _ _ hHeld (fun hHeld => ?_)
              clear hK K
              try simp only [Act.put, List.getElem_toArray, List.getElem_cons_zero, List.getElem_cons_succ, List.setIfInBounds_toArray, List.set_cons_zero, List.set_cons_succ]
              clear d8
              refine wpAnyH_ready (rs := [4]) (by kernel_rfl) (by simp) ?_
              refine AllReadyH.cons rfl (fun K hK => ?_) AllReadyH.nil
              go_simp
              refine (HNUM.out _ hHeld p 4 _ 4 (xa : Int) rfl rfl (by decide) (by omega) Xxa.out).mono ?_
              rintro e w5 ⟨rfl, hw5⟩
              rw [hw5]
              clear hw5 w5
              go_wp2_with fail
              refine hK.out _ _ hHeld (fun hHeld => ?_)
              clear hK K
              try simp only [Act.put, List.getElem_toArray, List.getElem_cons_zero, List.getElem_cons_succ, List.setIfInBounds_toArray, List.set_cons_zero, List.set_cons_succ]
              refine wpAnyH_take (i := 5) (v := ?_) rfl (by kernel_rfl) (by kernel_rfl) (by kernel_rfl) (fun _ _ _ h => h) (Or.inl ⟨by rfl, ?_⟩) (by assumption) ?_
              case refine_2 => intro W hSw; go_simp; try rfl
              try simp only [Act.put, List.getElem_toArray, List.getElem_cons_zero, List.getElem_cons_succ, List.setIfInBounds_toArray, List.set_cons_zero, List.set_cons_succ]
              refine wpAnyH_ready (rs := [9]) (by kernel_rfl) (by simp) ?_
              refine AllReadyH.cons rfl (fun K hK => ?_) AllReadyH.nil
              go_simp
              refine (HNUM.out _ hHeld p4 1 _ 1 (xb : Int) rfl rfl (by decide) (by omega) Xxb.out).mono ?_
              rintro e w5 ⟨rfl, hw5⟩
              rw [hw5]
              clear hw5 w5
              go_wp2_with fail
              refine hK.out _ _ hHeld (fun hHeld => ?_)
              clear hK K
              try simp only [Act.put, List.getElem_toArray, List.getElem_cons_zero, List.getElem_cons_succ, List.setIfInBounds_toArray, List.set_cons_zero, List.set_cons_succ]
              refine wpAnyH_take (i := 10) (v := ?_) rfl (by kernel_rfl) (by kernel_rfl) (by kernel_rfl) (fun _ _ _ h => h) (Or.inl ⟨by rfl, ?_⟩) (by assumption) ?_
              case refine_2 => intro W hSw; go_simp; try rfl
              try simp only [Act.put, List.getElem_toArray, List.getElem_cons_zero, List.getElem_cons_succ, List.setIfInBounds_toArray, List.set_cons_zero, List.set_cons_succ]
              refine wpAnyH_ready (rs := [14]) (by kernel_rfl) (by simp) ?_
              refine AllReadyH.cons rfl (fun K hK => ?_) AllReadyH.nil
              go_simp
              refine (HNUM.out _ hHeld p5 2 _ 2 (xc : Int) rfl rfl (by decide) (by omega) Xxc.out).mono ?_
              rintro e w5 ⟨rfl, hw5⟩
              rw [hw5]
              clear hw5 w5
              go_wp2_with fail
              refine hK.out _ _ hHeld (fun hHeld => ?_)
              clear hK K
              try simp only [Act.put, List.getElem_toArray, List.getElem_cons_zero, List.getElem_cons_succ, List.setIfInBounds_toArray, List.set_cons_zero, List.set_cons_succ]
              refine wpAnyH_take (i := 15) (v := ?_) rfl (by kernel_rfl) (by kernel_rfl) (by kernel_rfl) (fun _ _ _ h => h) (Or.inl ⟨by rfl, ?_⟩) (by assumption) ?_
              case refine_2 => intro W hSw; go_simp; try rfl
              try simp only [Act.put, List.getElem_toArray, List.getElem_cons_zero, List.getElem_cons_succ, List.setIfInBounds_toArray, List.set_cons_zero, List.set_cons_succ]
              refine wpAnyH_ready (rs := [16]) (by kernel_rfl) (by simp) ?_
              refine AllReadyH.cons rfl (fun K hK => ?_) AllReadyH.nil
              go_simp
              obtain ⟨v24, hV⟩ : ∃ v24, wD.alloc (Obj.cells #[.int .u32 (xa : Int), .int .i64 (xb : Int), .int .i64 (xc : Int)] 56) = v24 := ⟨_, rfl⟩
              have hbV : Below wD.heap.size wD v24 := by rw [← hV]; exact (Below.refl _ wD).alloc (Nat.le_refl _) _
              have AIv24 : Hid (AI w s (kind : Int) (area : Int) (origin : Int) (pa : Int) (pn : Int) (seq : Int) (age : Int) lv uv (cost : Int) (tag : Int) v24) := AIwD.out.next hbV
              have OWv24 : Hid (OwnT (s + 1) 56 .u32 v24 uv xs) := OWwD.out.bel hbV
              have OXv24 : Hid (OwnT (s + 1) 54 .i64 v24 lv LL.1) := OXwD.out.bel hbV
              have HV : Hid (wD.alloc (Obj.cells #[.int .u32 (xa : Int), .int .i64 (xb : Int), .int .i64 (xc : Int)] 56) = v24) := hV
              obtain ⟨u, hu⟩ : ∃ u, wD.heap.size = u := ⟨_, rfl⟩
              have HU : Hid (wD.heap.size = u) := hu
              rw [hV, hu]
              clear hV hbV hu hHeld
              refine hK.out _ _ AIv24.out.bel (fun hHeld => ?_)
              clear hK K
              try simp only [Act.put, List.getElem_toArray, List.getElem_cons_zero, List.getElem_cons_succ, List.setIfInBounds_toArray, List.set_cons_zero, List.set_cons_succ]
              refine wpAnyH_ready (rs := [17]) (by kernel_rfl) (by simp) ?_
              refine AllReadyH.cons rfl (fun K hK => ?_) AllReadyH.nil
              refine step_app1T rfl _ _ 26 56 rfl .u32 i0 _ Try.underlying26 hi hz0 hz1 (by omega) rfl (s + 1) uv xs ((xa : Int), (xb : Int), (xc : Int)) hbig (w := wD) v24 rfl OWv24.out (by rw [HU.out]; rfl) (by have := AIv24.out.sz; omega) HV.out.symm ?_
              intro v' w' ho' hg' hat'
              have AIz : Hid (AI w s (kind : Int) (area : Int) (origin : Int) (pa : Int) (pn : Int) (seq : Int) (age : Int) lv uv (cost : Int) (tag : Int) w') := AIv24.out.grown hg'.out (fun g e => (OWv24.out.row.lt g e).1)
              have OXz : Hid (OwnT (s + 1) 54 .i64 w' lv LL.1) := OXv24.out.grown hg'.out (fun g e e2 => HAP.out g e e2)
              have APz : Hid (∀ g, lv.ownBlock = some g → ¬ v'.ownBlock = some g) := fun g e e2 => by
                rcases hat'.out with e3 | e3
                · exact HAP.out g e (e3 ▸ e2)
                · rw [e3] at e2
                  cases e2
                  exact absurd (OXv24.out.row.lt _ e).2 (by omega)
              obtain ⟨va', vc', hv'⟩ := ho'.out.form
              obtain ⟨q, hq⟩ : ∃ q, (xs ++ [((xa : Int), (xb : Int), (xc : Int))]).length = q := ⟨_, rfl⟩
              rw [hq] at hv'
              subst hv'
              clear hq hHeld
              have d8 := AIz.out.bx.c8
              have dz := AIz.out.fx 8
              refine hK.out _ _ AIz.out.bel (fun hHeld => ?_)
              clear hK K
              try simp only [Act.put, List.getElem_toArray, List.getElem_cons_zero, List.getElem_cons_succ, List.setIfInBounds_toArray, List.set_cons_zero, List.set_cons_succ]
              refine wpAnyH_take (i := 18) (v := ?_) rfl (by kernel_rfl) (by kernel_rfl) (by kernel_rfl) (fun _ _ _ h => h) (Or.inl ⟨by rfl, ?_⟩) (by assumption) ?_
              case refine_2 => intro W hSw; go_simp; try rfl
              try simp only [Act.put, List.getElem_toArray, List.getElem_cons_zero, List.getElem_cons_succ, List.setIfInBounds_toArray, List.set_cons_zero, List.set_cons_succ]
              refine wpAnyH_ready (rs := [19]) (by kernel_rfl) (by simp) ?_
              refine AllReadyH.cons rfl (fun K hK => ?_) AllReadyH.nil
              have AIy : Hid (AI w s (kind : Int) (area : Int) (origin : Int) (pa : Int) (pn : Int) (seq : Int) (age : Int) lv (.slice va' q vc') (cost : Int) (tag : Int) (w'.setCell ⟨s, 8, none⟩ (.slice va' q vc'))) := AIz.out.set8 _
              have OWy := ho'.out.set (i := 8) (u := .slice va' q vc') (Nat.lt_succ_self s)
              have OXy := OXz.out.set (i := 8) (u := .slice va' q vc') (Nat.lt_succ_self s)
              go_simp
              refine hK.out _ _ AIy.out.bel (fun hHeld => ?_)
              clear hK K
              try simp only [Act.put, List.getElem_toArray, List.getElem_cons_zero, List.getElem_cons_succ, List.setIfInBounds_toArray, List.set_cons_zero, List.set_cons_succ]
              refine wpAnyH_done (by kernel_rfl) ?_ _
              clear d8 dz hHeld
              go_wp2_with fail
              exact ⟨⟨j + 1, xs ++ [((xa : Int), (xb : Int), (xc : Int))], _, by omega, by simp, by rw [HPN.out], by rw [List.length_append, HXL.out]; rfl, AIy.out, OWy, OXy, APz.out, HNX.out, HXI.out⟩, by simp [intOf]; omega⟩
            · go_simp
              refine (HNUM.out _ hHeld p 4 _ 4 (xa : Int) rfl rfl (by decide) (by omega) Xxa.out).mono ?_
              rintro e w5 ⟨rfl, hw5⟩
              rw [hw5]
              clear hw5 w5
              go_wp2_with fail
              refine hK.out _ _ hHeld (fun hHeld => ?_)
              clear hK K
              try simp only [Act.put, List.getElem_toArray, List.getElem_cons_zero, List.getElem_cons_succ, List.setIfInBounds_toArray, List.set_cons_zero, List.set_cons_succ]
              refine wpAnyH_take (i := 5) (v := ?_) rfl (by kernel_rfl) (by kernel_rfl) (by kernel_rfl) (fun _ _ _ h => h) (Or.inl ⟨by rfl, ?_⟩) (by assumption) ?_
              case refine_2 => intro W hSw; go_simp; try rfl
              try simp only [Act.put, List.getElem_toArray, List.getElem_cons_zero, List.getElem_cons_succ, List.setIfInBounds_toArray, List.set_cons_zero, List.set_cons_succ]
              refine wpAnyH_ready (rs := [1, 9]) (by kernel_rfl) (by simp) ?_
              refine AllReadyH.cons rfl (fun K hK => ?_) (AllReadyH.cons rfl (fun K hK => ?_) AllReadyH.nil)
              · have d8 := AIwD.out.bx.c8
                go_simp
                refine hK.out _ _ hHeld (fun hHeld => ?_)
                clear hK K
                try simp only [Act.put, List.getElem_toArray, List.getElem_cons_zero, List.getElem_cons_succ, List.setIfInBounds_toArray, List.set_cons_zero, List.set_cons_succ]
                clear d8
                refine wpAnyH_ready (rs := [9]) (by kernel_rfl) (by simp) ?_
                refine AllReadyH.cons rfl (fun K hK => ?_) AllReadyH.nil
                go_simp
                refine (HNUM.out _ hHeld p4 1 _ 1 (xb : Int) rfl rfl (by decide) (by omega) Xxb.out).mono ?_
                rintro e w5 ⟨rfl, hw5⟩
                rw [hw5]
                clear hw5 w5
                go_wp2_with fail
                refine hK.out _ _ hHeld (fun hHeld => ?_)
                clear hK K
                try simp only [Act.put, List.getElem_toArray, List.getElem_cons_zero, List.getElem_cons_succ, List.setIfInBounds_toArray, List.set_cons_zero, List.set_cons_succ]
                refine wpAnyH_take (i := 10) (v := ?_) rfl (by kernel_rfl) (by kernel_rfl) (by kernel_rfl) (fun _ _ _ h => h) (Or.inl ⟨by rfl, ?_⟩) (by assumption) ?_
                case refine_2 => intro W hSw; go_simp; try rfl
                try simp only [Act.put, List.getElem_toArray, List.getElem_cons_zero, List.getElem_cons_succ, List.setIfInBounds_toArray, List.set_cons_zero, List.set_cons_succ]
                refine wpAnyH_ready (rs := [14]) (by kernel_rfl) (by simp) ?_
                refine AllReadyH.cons rfl (fun K hK => ?_) AllReadyH.nil
                go_simp
                refine (HNUM.out _ hHeld p5 2 _ 2 (xc : Int) rfl rfl (by decide) (by omega) Xxc.out).mono ?_
                rintro e w5 ⟨rfl, hw5⟩
                rw [hw5]
                clear hw5 w5
                go_wp2_with fail
                refine hK.out _ _ hHeld (fun hHeld => ?_)
                clear hK K
                try simp only [Act.put, List.getElem_toArray, List.getElem_cons_zero, List.getElem_cons_succ, List.setIfInBounds_toArray, List.set_cons_zero, List.set_cons_succ]
                refine wpAnyH_take (i := 15) (v := ?_) rfl (by kernel_rfl) (by kernel_rfl) (by kernel_rfl) (fun _ _ _ h => h) (Or.inl ⟨by rfl, ?_⟩) (by assumption) ?_
                case refine_2 => intro W hSw; go_simp; try rfl
                try simp only [Act.put, List.getElem_toArray, List.getElem_cons_zero, List.getElem_cons_succ, List.setIfInBounds_toArray, List.set_cons_zero, List.set_cons_succ]
                refine wpAnyH_ready (rs := [16]) (by kernel_rfl) (by simp) ?_
                refine AllReadyH.cons rfl (fun K hK => ?_) AllReadyH.nil
                go_simp
                obtain ⟨v29, hV⟩ : ∃ v29, wD.alloc (Obj.cells #[.int .u32 (xa : Int), .int .i64 (xb : Int), .int .i64 (xc : Int)] 56) = v29 := ⟨_, rfl⟩
                have hbV : Below wD.heap.size wD v29 := by rw [← hV]; exact (Below.refl _ wD).alloc (Nat.le_refl _) _
                have AIv29 : Hid (AI w s (kind : Int) (area : Int) (origin : Int) (pa : Int) (pn : Int) (seq : Int) (age : Int) lv uv (cost : Int) (tag : Int) v29) := AIwD.out.next hbV
                have OWv29 : Hid (OwnT (s + 1) 56 .u32 v29 uv xs) := OWwD.out.bel hbV
                have OXv29 : Hid (OwnT (s + 1) 54 .i64 v29 lv LL.1) := OXwD.out.bel hbV
                have HV : Hid (wD.alloc (Obj.cells #[.int .u32 (xa : Int), .int .i64 (xb : Int), .int .i64 (xc : Int)] 56) = v29) := hV
                obtain ⟨u, hu⟩ : ∃ u, wD.heap.size = u := ⟨_, rfl⟩
                have HU : Hid (wD.heap.size = u) := hu
                rw [hV, hu]
                clear hV hbV hu hHeld
                refine hK.out _ _ AIv29.out.bel (fun hHeld => ?_)
                clear hK K
                try simp only [Act.put, List.getElem_toArray, List.getElem_cons_zero, List.getElem_cons_succ, List.setIfInBounds_toArray, List.set_cons_zero, List.set_cons_succ]
                refine wpAnyH_ready (rs := [17]) (by kernel_rfl) (by simp) ?_
                refine AllReadyH.cons rfl (fun K hK => ?_) AllReadyH.nil
                refine step_app1T rfl _ _ 26 56 rfl .u32 i0 _ Try.underlying26 hi hz0 hz1 (by omega) rfl (s + 1) uv xs ((xa : Int), (xb : Int), (xc : Int)) hbig (w := wD) v29 rfl OWv29.out (by rw [HU.out]; rfl) (by have := AIv29.out.sz; omega) HV.out.symm ?_
                intro v' w' ho' hg' hat'
                have AIz : Hid (AI w s (kind : Int) (area : Int) (origin : Int) (pa : Int) (pn : Int) (seq : Int) (age : Int) lv uv (cost : Int) (tag : Int) w') := AIv29.out.grown hg'.out (fun g e => (OWv29.out.row.lt g e).1)
                have OXz : Hid (OwnT (s + 1) 54 .i64 w' lv LL.1) := OXv29.out.grown hg'.out (fun g e e2 => HAP.out g e e2)
                have APz : Hid (∀ g, lv.ownBlock = some g → ¬ v'.ownBlock = some g) := fun g e e2 => by
                  rcases hat'.out with e3 | e3
                  · exact HAP.out g e (e3 ▸ e2)
                  · rw [e3] at e2
                    cases e2
                    exact absurd (OXv29.out.row.lt _ e).2 (by omega)
                obtain ⟨va', vc', hv'⟩ := ho'.out.form
                obtain ⟨q, hq⟩ : ∃ q, (xs ++ [((xa : Int), (xb : Int), (xc : Int))]).length = q := ⟨_, rfl⟩
                rw [hq] at hv'
                subst hv'
                clear hq hHeld
                have d8 := AIz.out.bx.c8
                have dz := AIz.out.fx 8
                refine hK.out _ _ AIz.out.bel (fun hHeld => ?_)
                clear hK K
                try simp only [Act.put, List.getElem_toArray, List.getElem_cons_zero, List.getElem_cons_succ, List.setIfInBounds_toArray, List.set_cons_zero, List.set_cons_succ]
                refine wpAnyH_take (i := 18) (v := ?_) rfl (by kernel_rfl) (by kernel_rfl) (by kernel_rfl) (fun _ _ _ h => h) (Or.inl ⟨by rfl, ?_⟩) (by assumption) ?_
                case refine_2 => intro W hSw; go_simp; try rfl
                try simp only [Act.put, List.getElem_toArray, List.getElem_cons_zero, List.getElem_cons_succ, List.setIfInBounds_toArray, List.set_cons_zero, List.set_cons_succ]
                refine wpAnyH_ready (rs := [19]) (by kernel_rfl) (by simp) ?_
                refine AllReadyH.cons rfl (fun K hK => ?_) AllReadyH.nil
                have AIy : Hid (AI w s (kind : Int) (area : Int) (origin : Int) (pa : Int) (pn : Int) (seq : Int) (age : Int) lv (.slice va' q vc') (cost : Int) (tag : Int) (w'.setCell ⟨s, 8, none⟩ (.slice va' q vc'))) := AIz.out.set8 _
                have OWy := ho'.out.set (i := 8) (u := .slice va' q vc') (Nat.lt_succ_self s)
                have OXy := OXz.out.set (i := 8) (u := .slice va' q vc') (Nat.lt_succ_self s)
                go_simp
                refine hK.out _ _ AIy.out.bel (fun hHeld => ?_)
                clear hK K
                try simp only [Act.put, List.getElem_toArray, List.getElem_cons_zero, List.getElem_cons_succ, List.setIfInBounds_toArray, List.set_cons_zero, List.set_cons_succ]
                refine wpAnyH_done (by kernel_rfl) ?_ _
                clear d8 dz hHeld
                go_wp2_with fail
                exact ⟨⟨j + 1, xs ++ [((xa : Int), (xb : Int), (xc : Int))], _, by omega, by simp, by rw [HPN.out], by rw [List.length_append, HXL.out]; rfl, AIy.out, OWy, OXy, APz.out, HNX.out, HXI.out⟩, by simp [intOf]; omega⟩
              · go_simp
                refine (HNUM.out _ hHeld p4 1 _ 1 (xb : Int) rfl rfl (by decide) (by omega) Xxb.out).mono ?_
                rintro e w5 ⟨rfl, hw5⟩
                rw [hw5]
                clear hw5 w5
                go_wp2_with fail
                refine hK.out _ _ hHeld (fun hHeld => ?_)
                clear hK K
                try simp only [Act.put, List.getElem_toArray, List.getElem_cons_zero, List.getElem_cons_succ, List.setIfInBounds_toArray, List.set_cons_zero, List.set_cons_succ]
                refine wpAnyH_take (i := 10) (v := ?_) rfl (by kernel_rfl) (by kernel_rfl) (by kernel_rfl) (fun _ _ _ h => h) (Or.inl ⟨by rfl, ?_⟩) (by assumption) ?_
                case refine_2 => intro W hSw; go_simp; try rfl
                try simp only [Act.put, List.getElem_toArray, List.getElem_cons_zero, List.getElem_cons_succ, List.setIfInBounds_toArray, List.set_cons_zero, List.set_cons_succ]
                refine wpAnyH_ready (rs := [1, 14]) (by kernel_rfl) (by simp) ?_
                refine AllReadyH.cons rfl (fun K hK => ?_) (AllReadyH.cons rfl (fun K hK => ?_) AllReadyH.nil)
                · have d8 := AIwD.out.bx.c8
                  go_simp
                  refine hK.out _ _ hHeld (fun hHeld => ?_)
                  clear hK K
                  try simp only [Act.put, List.getElem_toArray, List.getElem_cons_zero, List.getElem_cons_succ, List.setIfInBounds_toArray, List.set_cons_zero, List.set_cons_succ]
                  clear d8
                  refine wpAnyH_ready (rs := [14]) (by kernel_rfl) (by simp) ?_
                  refine AllReadyH.cons rfl (fun K hK => ?_) AllReadyH.nil
                  go_simp
                  refine (HNUM.out _ hHeld p5 2 _ 2 (xc : Int) rfl rfl (by decide) (by omega) Xxc.out).mono ?_
                  rintro e w5 ⟨rfl, hw5⟩
                  rw [hw5]
                  clear hw5 w5
                  go_wp2_with fail
                  refine hK.out _ _ hHeld (fun hHeld => ?_)
                  clear hK K
                  try simp only [Act.put, List.getElem_toArray, List.getElem_cons_zero, List.getElem_cons_succ, List.setIfInBounds_toArray, List.set_cons_zero, List.set_cons_succ]
                  refine wpAnyH_take (i := 15) (v := ?_) rfl (by kernel_rfl) (by kernel_rfl) (by kernel_rfl) (fun _ _ _ h => h) (Or.inl ⟨by rfl, ?_⟩) (by assumption) ?_
                  case refine_2 => intro W hSw; go_simp; try rfl
                  try simp only [Act.put, List.getElem_toArray, List.getElem_cons_zero, List.getElem_cons_succ, List.setIfInBounds_toArray, List.set_cons_zero, List.set_cons_succ]
                  refine wpAnyH_ready (rs := [16]) (by kernel_rfl) (by simp) ?_
                  refine AllReadyH.cons rfl (fun K hK => ?_) AllReadyH.nil
                  go_simp
                  obtain ⟨v33, hV⟩ : ∃ v33, wD.alloc (Obj.cells #[.int .u32 (xa : Int), .int .i64 (xb : Int), .int .i64 (xc : Int)] 56) = v33 := ⟨_, rfl⟩
                  have hbV : Below wD.heap.size wD v33 := by rw [← hV]; exact (Below.refl _ wD).alloc (Nat.le_refl _) _
                  have AIv33 : Hid (AI w s (kind : Int) (area : Int) (origin : Int) (pa : Int) (pn : Int) (seq : Int) (age : Int) lv uv (cost : Int) (tag : Int) v33) := AIwD.out.next hbV
                  have OWv33 : Hid (OwnT (s + 1) 56 .u32 v33 uv xs) := OWwD.out.bel hbV
                  have OXv33 : Hid (OwnT (s + 1) 54 .i64 v33 lv LL.1) := OXwD.out.bel hbV
                  have HV : Hid (wD.alloc (Obj.cells #[.int .u32 (xa : Int), .int .i64 (xb : Int), .int .i64 (xc : Int)] 56) = v33) := hV
                  obtain ⟨u, hu⟩ : ∃ u, wD.heap.size = u := ⟨_, rfl⟩
                  have HU : Hid (wD.heap.size = u) := hu
                  rw [hV, hu]
                  clear hV hbV hu hHeld
                  refine hK.out _ _ AIv33.out.bel (fun hHeld => ?_)
                  clear hK K
                  try simp only [Act.put, List.getElem_toArray, List.getElem_cons_zero, List.getElem_cons_succ, List.setIfInBounds_toArray, List.set_cons_zero, List.set_cons_succ]
                  refine wpAnyH_ready (rs := [17]) (by kernel_rfl) (by simp) ?_
                  refine AllReadyH.cons rfl (fun K hK => ?_) AllReadyH.nil
                  refine step_app1T rfl _ _ 26 56 rfl .u32 i0 _ Try.underlying26 hi hz0 hz1 (by omega) rfl (s + 1) uv xs ((xa : Int), (xb : Int), (xc : Int)) hbig (w := wD) v33 rfl OWv33.out (by rw [HU.out]; rfl) (by have := AIv33.out.sz; omega) HV.out.symm ?_
                  intro v' w' ho' hg' hat'
                  have AIz : Hid (AI w s (kind : Int) (area : Int) (origin : Int) (pa : Int) (pn : Int) (seq : Int) (age : Int) lv uv (cost : Int) (tag : Int) w') := AIv33.out.grown hg'.out (fun g e => (OWv33.out.row.lt g e).1)
                  have OXz : Hid (OwnT (s + 1) 54 .i64 w' lv LL.1) := OXv33.out.grown hg'.out (fun g e e2 => HAP.out g e e2)
                  have APz : Hid (∀ g, lv.ownBlock = some g → ¬ v'.ownBlock = some g) := fun g e e2 => by
                    rcases hat'.out with e3 | e3
                    · exact HAP.out g e (e3 ▸ e2)
                    · rw [e3] at e2
                      cases e2
                      exact absurd (OXv33.out.row.lt _ e).2 (by omega)
                  obtain ⟨va', vc', hv'⟩ := ho'.out.form
                  obtain ⟨q, hq⟩ : ∃ q, (xs ++ [((xa : Int), (xb : Int), (xc : Int))]).length = q := ⟨_, rfl⟩
                  rw [hq] at hv'
                  subst hv'
                  clear hq hHeld
                  have d8 := AIz.out.bx.c8
                  have dz := AIz.out.fx 8
                  refine hK.out _ _ AIz.out.bel (fun hHeld => ?_)
                  clear hK K
                  try simp only [Act.put, List.getElem_toArray, List.getElem_cons_zero, List.getElem_cons_succ, List.setIfInBounds_toArray, List.set_cons_zero, List.set_cons_succ]
                  refine wpAnyH_take (i := 18) (v := ?_) rfl (by kernel_rfl) (by kernel_rfl) (by kernel_rfl) (fun _ _ _ h => h) (Or.inl ⟨by rfl, ?_⟩) (by assumption) ?_
                  case refine_2 => intro W hSw; go_simp; try rfl
                  try simp only [Act.put, List.getElem_toArray, List.getElem_cons_zero, List.getElem_cons_succ, List.setIfInBounds_toArray, List.set_cons_zero, List.set_cons_succ]
                  refine wpAnyH_ready (rs := [19]) (by kernel_rfl) (by simp) ?_
                  refine AllReadyH.cons rfl (fun K hK => ?_) AllReadyH.nil
                  have AIy : Hid (AI w s (kind : Int) (area : Int) (origin : Int) (pa : Int) (pn : Int) (seq : Int) (age : Int) lv (.slice va' q vc') (cost : Int) (tag : Int) (w'.setCell ⟨s, 8, none⟩ (.slice va' q vc'))) := AIz.out.set8 _
                  have OWy := ho'.out.set (i := 8) (u := .slice va' q vc') (Nat.lt_succ_self s)
                  have OXy := OXz.out.set (i := 8) (u := .slice va' q vc') (Nat.lt_succ_self s)
                  go_simp
                  refine hK.out _ _ AIy.out.bel (fun hHeld => ?_)
                  clear hK K
                  try simp only [Act.put, List.getElem_toArray, List.getElem_cons_zero, List.getElem_cons_succ, List.setIfInBounds_toArray, List.set_cons_zero, List.set_cons_succ]
                  refine wpAnyH_done (by kernel_rfl) ?_ _
                  clear d8 dz hHeld
                  go_wp2_with fail
                  exact ⟨⟨j + 1, xs ++ [((xa : Int), (xb : Int), (xc : Int))], _, by omega, by simp, by rw [HPN.out], by rw [List.length_append, HXL.out]; rfl, AIy.out, OWy, OXy, APz.out, HNX.out, HXI.out⟩, by simp [intOf]; omega⟩
                · go_simp
                  refine (HNUM.out _ hHeld p5 2 _ 2 (xc : Int) rfl rfl (by decide) (by omega) Xxc.out).mono ?_
                  rintro e w5 ⟨rfl, hw5⟩
                  rw [hw5]
                  clear hw5 w5
                  go_wp2_with fail
                  refine hK.out _ _ hHeld (fun hHeld => ?_)
                  clear hK K
                  try simp only [Act.put, List.getElem_toArray, List.getElem_cons_zero, List.getElem_cons_succ, List.setIfInBounds_toArray, List.set_cons_zero, List.set_cons_succ]
                  refine wpAnyH_take (i := 15) (v := ?_) rfl (by kernel_rfl) (by kernel_rfl) (by kernel_rfl) (fun _ _ _ h => h) (Or.inl ⟨by rfl, ?_⟩) (by assumption) ?_
                  case refine_2 => intro W hSw; go_simp; try rfl
                  try simp only [Act.put, List.getElem_toArray, List.getElem_cons_zero, List.getElem_cons_succ, List.setIfInBounds_toArray, List.set_cons_zero, List.set_cons_succ]
                  refine wpAnyH_ready (rs := [1, 16]) (by kernel_rfl) (by simp) ?_
                  refine AllReadyH.cons rfl (fun K hK => ?_) (AllReadyH.cons rfl (fun K hK => ?_) AllReadyH.nil)
                  · have d8 := AIwD.out.bx.c8
                    go_simp
                    refine hK.out _ _ hHeld (fun hHeld => ?_)
                    clear hK K
                    try simp only [Act.put, List.getElem_toArray, List.getElem_cons_zero, List.getElem_cons_succ, List.setIfInBounds_toArray, List.set_cons_zero, List.set_cons_succ]
                    clear d8
                    refine wpAnyH_ready (rs := [16]) (by kernel_rfl) (by simp) ?_
                    refine AllReadyH.cons rfl (fun K hK => ?_) AllReadyH.nil
                    go_simp
                    obtain ⟨v36, hV⟩ : ∃ v36, wD.alloc (Obj.cells #[.int .u32 (xa : Int), .int .i64 (xb : Int), .int .i64 (xc : Int)] 56) = v36 := ⟨_, rfl⟩
                    have hbV : Below wD.heap.size wD v36 := by rw [← hV]; exact (Below.refl _ wD).alloc (Nat.le_refl _) _
                    have AIv36 : Hid (AI w s (kind : Int) (area : Int) (origin : Int) (pa : Int) (pn : Int) (seq : Int) (age : Int) lv uv (cost : Int) (tag : Int) v36) := AIwD.out.next hbV
                    have OWv36 : Hid (OwnT (s + 1) 56 .u32 v36 uv xs) := OWwD.out.bel hbV
                    have OXv36 : Hid (OwnT (s + 1) 54 .i64 v36 lv LL.1) := OXwD.out.bel hbV
                    have HV : Hid (wD.alloc (Obj.cells #[.int .u32 (xa : Int), .int .i64 (xb : Int), .int .i64 (xc : Int)] 56) = v36) := hV
                    obtain ⟨u, hu⟩ : ∃ u, wD.heap.size = u := ⟨_, rfl⟩
                    have HU : Hid (wD.heap.size = u) := hu
                    rw [hV, hu]
                    clear hV hbV hu hHeld
                    refine hK.out _ _ AIv36.out.bel (fun hHeld => ?_)
                    clear hK K
                    try simp only [Act.put, List.getElem_toArray, List.getElem_cons_zero, List.getElem_cons_succ, List.setIfInBounds_toArray, List.set_cons_zero, List.set_cons_succ]
                    refine wpAnyH_ready (rs := [17]) (by kernel_rfl) (by simp) ?_
                    refine AllReadyH.cons rfl (fun K hK => ?_) AllReadyH.nil
                    refine step_app1T rfl _ _ 26 56 rfl .u32 i0 _ Try.underlying26 hi hz0 hz1 (by omega) rfl (s + 1) uv xs ((xa : Int), (xb : Int), (xc : Int)) hbig (w := wD) v36 rfl OWv36.out (by rw [HU.out]; rfl) (by have := AIv36.out.sz; omega) HV.out.symm ?_
                    intro v' w' ho' hg' hat'
                    have AIz : Hid (AI w s (kind : Int) (area : Int) (origin : Int) (pa : Int) (pn : Int) (seq : Int) (age : Int) lv uv (cost : Int) (tag : Int) w') := AIv36.out.grown hg'.out (fun g e => (OWv36.out.row.lt g e).1)
                    have OXz : Hid (OwnT (s + 1) 54 .i64 w' lv LL.1) := OXv36.out.grown hg'.out (fun g e e2 => HAP.out g e e2)
                    have APz : Hid (∀ g, lv.ownBlock = some g → ¬ v'.ownBlock = some g) := fun g e e2 => by
                      rcases hat'.out with e3 | e3
                      · exact HAP.out g e (e3 ▸ e2)
                      · rw [e3] at e2
                        cases e2
                        exact absurd (OXv36.out.row.lt _ e).2 (by omega)
                    obtain ⟨va', vc', hv'⟩ := ho'.out.form
                    obtain ⟨q, hq⟩ : ∃ q, (xs ++ [((xa : Int), (xb : Int), (xc : Int))]).length = q := ⟨_, rfl⟩
                    rw [hq] at hv'
                    subst hv'
                    clear hq hHeld
                    have d8 := AIz.out.bx.c8
                    have dz := AIz.out.fx 8
                    refine hK.out _ _ AIz.out.bel (fun hHeld => ?_)
                    clear hK K
                    try simp only [Act.put, List.getElem_toArray, List.getElem_cons_zero, List.getElem_cons_succ, List.setIfInBounds_toArray, List.set_cons_zero, List.set_cons_succ]
                    refine wpAnyH_take (i := 18) (v := ?_) rfl (by kernel_rfl) (by kernel_rfl) (by kernel_rfl) (fun _ _ _ h => h) (Or.inl ⟨by rfl, ?_⟩) (by assumption) ?_
                    case refine_2 => intro W hSw; go_simp; try rfl
                    try simp only [Act.put, List.getElem_toArray, List.getElem_cons_zero, List.getElem_cons_succ, List.setIfInBounds_toArray, List.set_cons_zero, List.set_cons_succ]
                    refine wpAnyH_ready (rs := [19]) (by kernel_rfl) (by simp) ?_
                    refine AllReadyH.cons rfl (fun K hK => ?_) AllReadyH.nil
                    have AIy : Hid (AI w s (kind : Int) (area : Int) (origin : Int) (pa : Int) (pn : Int) (seq : Int) (age : Int) lv (.slice va' q vc') (cost : Int) (tag : Int) (w'.setCell ⟨s, 8, none⟩ (.slice va' q vc'))) := AIz.out.set8 _
                    have OWy := ho'.out.set (i := 8) (u := .slice va' q vc') (Nat.lt_succ_self s)
                    have OXy := OXz.out.set (i := 8) (u := .slice va' q vc') (Nat.lt_succ_self s)
                    go_simp
                    refine hK.out _ _ AIy.out.bel (fun hHeld => ?_)
                    clear hK K
                    try simp only [Act.put, List.getElem_toArray, List.getElem_cons_zero, List.getElem_cons_succ, List.setIfInBounds_toArray, List.set_cons_zero, List.set_cons_succ]
                    refine wpAnyH_done (by kernel_rfl) ?_ _
                    clear d8 dz hHeld
                    go_wp2_with fail
                    exact ⟨⟨j + 1, xs ++ [((xa : Int), (xb : Int), (xc : Int))], _, by omega, by simp, by rw [HPN.out], by rw [List.length_append, HXL.out]; rfl, AIy.out, OWy, OXy, APz.out, HNX.out, HXI.out⟩, by simp [intOf]; omega⟩
                  · go_simp
                    obtain ⟨v37, hV⟩ : ∃ v37, wD.alloc (Obj.cells #[.int .u32 (xa : Int), .int .i64 (xb : Int), .int .i64 (xc : Int)] 56) = v37 := ⟨_, rfl⟩
                    have hbV : Below wD.heap.size wD v37 := by rw [← hV]; exact (Below.refl _ wD).alloc (Nat.le_refl _) _
                    have AIv37 : Hid (AI w s (kind : Int) (area : Int) (origin : Int) (pa : Int) (pn : Int) (seq : Int) (age : Int) lv uv (cost : Int) (tag : Int) v37) := AIwD.out.next hbV
                    have OWv37 : Hid (OwnT (s + 1) 56 .u32 v37 uv xs) := OWwD.out.bel hbV
                    have OXv37 : Hid (OwnT (s + 1) 54 .i64 v37 lv LL.1) := OXwD.out.bel hbV
                    have HV : Hid (wD.alloc (Obj.cells #[.int .u32 (xa : Int), .int .i64 (xb : Int), .int .i64 (xc : Int)] 56) = v37) := hV
                    obtain ⟨u, hu⟩ : ∃ u, wD.heap.size = u := ⟨_, rfl⟩
                    have HU : Hid (wD.heap.size = u) := hu
                    rw [hV, hu]
                    clear hV hbV hu hHeld
                    refine hK.out _ _ AIv37.out.bel (fun hHeld => ?_)
                    clear hK K
                    try simp only [Act.put, List.getElem_toArray, List.getElem_cons_zero, List.getElem_cons_succ, List.setIfInBounds_toArray, List.set_cons_zero, List.set_cons_succ]
                    refine wpAnyH_ready (rs := [1]) (by kernel_rfl) (by simp) ?_
                    refine AllReadyH.cons rfl (fun K hK => ?_) AllReadyH.nil
                    have d8 := AIv37.out.bx.c8
                    go_simp
                    refine hK.out _ _ hHeld (fun hHeld => ?_)
                    clear hK K
                    try simp only [Act.put, List.getElem_toArray, List.getElem_cons_zero, List.getElem_cons_succ, List.setIfInBounds_toArray, List.set_cons_zero, List.set_cons_succ]
                    clear d8
                    refine wpAnyH_ready (rs := [17]) (by kernel_rfl) (by simp) ?_
                    refine AllReadyH.cons rfl (fun K hK => ?_) AllReadyH.nil
                    refine step_app1T rfl _ _ 26 56 rfl .u32 i0 _ Try.underlying26 hi hz0 hz1 (by omega) rfl (s + 1) uv xs ((xa : Int), (xb : Int), (xc : Int)) hbig (w := wD) v37 rfl OWv37.out (by rw [HU.out]; rfl) (by have := AIv37.out.sz; omega) HV.out.symm ?_
                    intro v' w' ho' hg' hat'
                    have AIz : Hid (AI w s (kind : Int) (area : Int) (origin : Int) (pa : Int) (pn : Int) (seq : Int) (age : Int) lv uv (cost : Int) (tag : Int) w') := AIv37.out.grown hg'.out (fun g e => (OWv37.out.row.lt g e).1)
                    have OXz : Hid (OwnT (s + 1) 54 .i64 w' lv LL.1) := OXv37.out.grown hg'.out (fun g e e2 => HAP.out g e e2)
                    have APz : Hid (∀ g, lv.ownBlock = some g → ¬ v'.ownBlock = some g) := fun g e e2 => by
                      rcases hat'.out with e3 | e3
                      · exact HAP.out g e (e3 ▸ e2)
                      · rw [e3] at e2
                        cases e2
                        exact absurd (OXv37.out.row.lt _ e).2 (by omega)
                    obtain ⟨va', vc', hv'⟩ := ho'.out.form
                    obtain ⟨q, hq⟩ : ∃ q, (xs ++ [((xa : Int), (xb : Int), (xc : Int))]).length = q := ⟨_, rfl⟩
                    rw [hq] at hv'
                    subst hv'
                    clear hq hHeld
                    have d8 := AIz.out.bx.c8
                    have dz := AIz.out.fx 8
                    refine hK.out _ _ AIz.out.bel (fun hHeld => ?_)
                    clear hK K
                    try simp only [Act.put, List.getElem_toArray, List.getElem_cons_zero, List.getElem_cons_succ, List.setIfInBounds_toArray, List.set_cons_zero, List.set_cons_succ]
                    refine wpAnyH_take (i := 18) (v := ?_) rfl (by kernel_rfl) (by kernel_rfl) (by kernel_rfl) (fun _ _ _ h => h) (Or.inl ⟨by rfl, ?_⟩) (by assumption) ?_
                    case refine_2 => intro W hSw; go_simp; try rfl
                    try simp only [Act.put, List.getElem_toArray, List.getElem_cons_zero, List.getElem_cons_succ, List.setIfInBounds_toArray, List.set_cons_zero, List.set_cons_succ]
                    refine wpAnyH_ready (rs := [19]) (by kernel_rfl) (by simp) ?_
                    refine AllReadyH.cons rfl (fun K hK => ?_) AllReadyH.nil
                    have AIy : Hid (AI w s (kind : Int) (area : Int) (origin : Int) (pa : Int) (pn : Int) (seq : Int) (age : Int) lv (.slice va' q vc') (cost : Int) (tag : Int) (w'.setCell ⟨s, 8, none⟩ (.slice va' q vc'))) := AIz.out.set8 _
                    have OWy := ho'.out.set (i := 8) (u := .slice va' q vc') (Nat.lt_succ_self s)
                    have OXy := OXz.out.set (i := 8) (u := .slice va' q vc') (Nat.lt_succ_self s)
                    go_simp
                    refine hK.out _ _ AIy.out.bel (fun hHeld => ?_)
                    clear hK K
                    try simp only [Act.put, List.getElem_toArray, List.getElem_cons_zero, List.getElem_cons_succ, List.setIfInBounds_toArray, List.set_cons_zero, List.set_cons_succ]
                    refine wpAnyH_done (by kernel_rfl) ?_ _
                    clear d8 dz hHeld
                    go_wp2_with fail
                    exact ⟨⟨j + 1, xs ++ [((xa : Int), (xb : Int), (xc : Int))], _, by omega, by simp, by rw [HPN.out], by rw [List.length_append, HXL.out]; rfl, AIy.out, OWy, OXy, APz.out, HNX.out, HXI.out⟩, by simp [intOf]; omega⟩
          · obtain rfl : ns = j := by omega
            have HE : Hid (xs = S.1) := by
              have h1 := HD.out.1
              rw [Nat.sub_self] at h1
              simp [decN] at h1
              exact h1
            obtain hx1 := HE.out
            subst hx1
            obtain ⟨la, lc, hlv⟩ := HOX.out.form
            obtain ⟨sa, sc, huv⟩ := HOW.out.form
            subst hlv huv
            obtain ⟨n1, hn1⟩ : ∃ n, LL.1.length = n := ⟨_, rfl⟩
            obtain ⟨n2, hn2⟩ : ∃ n, S.1.length = n := ⟨_, rfl⟩
            have HN1 : Hid (LL.1.length = n1) := hn1
            have HN2 : Hid (S.1.length = n2) := hn2
            have hlo := HAI.out.lo
            have HFIN : Hid (∀ W, (∀ g, ¬ g = w.heap.size → W.heap[g]? = wr.heap[g]?) → Below w.heap.size wr W → ∃ la' lc' sa' sc', Ending.returned (Value.agg #[.int .i64 (kind : Int), .int .i64 (area : Int), .int .i64 (origin : Int), .int .u32 (pa : Int), .int .i64 (pn : Int), .int .i64 (seq : Int), .int .i64 (age : Int), .slice la n1 lc, .slice sa n2 sc, .int .i64 (cost : Int), .int .i64 (tag : Int)]) = .returned (lsaV ⟨(kind : Int), (area : Int), (origin : Int), (pa : Int), (pn : Int), (seq : Int), (age : Int), (cost : Int), (tag : Int), LL.1, S.1⟩ la' lc' sa' sc') ∧ Below w.heap.size w W ∧ OwnT (w.heap.size + 2) 54 .i64 W (.slice la' LL.1.length lc') LL.1 ∧ OwnT (w.heap.size + 2) 56 .u32 W (.slice sa' S.1.length sc') S.1 ∧ (∀ g, (Value.slice la' LL.1.length lc').ownBlock = some g → ¬ (Value.slice sa' S.1.length sc').ownBlock = some g) ∧ In32 (pa : Int) ∧ S32 S.1) := by
              intro W hW hB
              refine ⟨la, lc, sa, sc, ?_, HAI.out.bel.trans hB, ?_, ?_, HAP.out, ⟨by omega, by show (pa : Int) < 4294967296; omega⟩, HXJ.out⟩
              · unfold lsaV
                dsimp only
                rw [HN1.out, HN2.out]
              · have h1 := HOX.out.blk (w' := W) (fun g e => hW g (by have := (HOX.out.row.lt g e).1; omega))
                exact h1.mono (by omega)
              · have h1 := HOW.out.blk (w' := W) (fun g e => hW g (by have := (HOW.out.row.lt g e).1; omega))
                exact h1.mono (by omega)
            have hbx := HAI.out.bx
            rw [hn1, hn2] at hbx
            obtain ⟨c0, c1, c2, c3, c4, c5, c6, c7, c8, c9, c10⟩ := hbx
            obtain ⟨z0, z1, z2, z3, z4, z5, z6, z7, z8, z9, z10⟩ := HAI.out.zx
            have fz := HAI.out.fz
            clear HAI HOW HOX HAP HXJ hn1 hn2 HE HD
            go_wp2_with fail
            refine bodyPost_ret (v := .agg #[.int .i64 (kind : Int), .int .i64 (area : Int), .int .i64 (origin : Int), .int .u32 (pa : Int), .int .i64 (pn : Int), .int .i64 (seq : Int), .int .i64 (age : Int), .slice la n1 lc, .slice sa n2 sc, .int .i64 (cost : Int), .int .i64 (tag : Int)]) (by simp [results, Try.results65, go_sem, z0, z1, z2, z3, z4, z5, z6, z7, z8, z9, z10]) rfl ?_
            obtain ⟨WW, hWW⟩ : ∃ WW, (((((((((((wr.setCell ⟨w.heap.size, 0, none⟩ (.int .i64 (kind : Int))).setCell ⟨w.heap.size, 1, none⟩ (.int .i64 (area : Int))).setCell ⟨w.heap.size, 2, none⟩ (.int .i64 (origin : Int))).setCell ⟨w.heap.size, 3, none⟩ (.int .u32 (pa : Int))).setCell ⟨w.heap.size, 4, none⟩ (.int .i64 (pn : Int))).setCell ⟨w.heap.size, 5, none⟩ (.int .i64 (seq : Int))).setCell ⟨w.heap.size, 6, none⟩ (.int .i64 (age : Int))).setCell ⟨w.heap.size, 7, none⟩ (.slice la n1 lc)).setCell ⟨w.heap.size, 8, none⟩ (.slice sa n2 sc)).setCell ⟨w.heap.size, 9, none⟩ (.int .i64 (cost : Int))).setCell ⟨w.heap.size, 10, none⟩ (.int .i64 (tag : Int))) = WW := ⟨_, rfl⟩
            rw [hWW]
            refine HFIN.out WW ?_ ?_
            · intro g hg
              rw [← hWW]
              repeat rw [Below.heap_setCell _ _ _ _ (by show g ≠ w.heap.size; exact hg)]
            · rw [← hWW]
              iterate 11 refine Below.setCell ?_ (by show _ ≤ w.heap.size; omega) _
              exact Below.refl _ _
end Go.Proofs.Ytagfdmkgnedlbae.Ls
