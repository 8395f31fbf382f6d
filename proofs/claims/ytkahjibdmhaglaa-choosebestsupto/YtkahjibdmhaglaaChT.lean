/- Offers whose lists are their own: offerCopy. -/
import Derived.Test.YtkahjibdmhaglaaChS
import Derived.Test.YtkahjibdmhaglaaChQ
import Derived.Test.YtkahjibdmhaglaaChV
namespace Go.Proofs.Ytkahjibdmhaglaa.Ch
open Go.ChangeShapes Go.WideShapes Go.ChangeAt Go.RowKit Go.Joins Go.Deep Go.Proofs.Ytkahjibdmhaglaa.Ge
set_option linter.unusedVariables false
set_option linter.unusedSimpArgs false

structure OcOk (N : Nat) (w' : World) (x : Of) (s : Oa) : Prop where
  p : OwnL EI N w' (.slice s.p x.path.length s.pc) x.path
  m : OwnL EI N w' (.slice s.m x.marks.length s.mc) x.marks
  c : OwnL EI N w' (.slice s.c x.clus.length s.cc) x.clus
def OcPost (w : World) (x : Of) (e : Ending) (w' : World) : Prop := ∃ s, e = .returned (.agg (ofL x s).toArray) ∧ Below w.heap.size w w' ∧ OcOk w.heap.size w' x s
structure Oc3 (k N : Nat) (W : World) (x : Of) (s : Oa) : Prop where
  p : 1 ≤ k → OwnL EI N W (.slice s.p x.path.length s.pc) x.path
  m : 2 ≤ k → OwnL EI N W (.slice s.m x.marks.length s.mc) x.marks
  c : 3 ≤ k → OwnL EI N W (.slice s.c x.clus.length s.cc) x.clus
theorem oc_keep {b1 : Nat} {W V W' : World} {v : Value} {xs : List Int} (h : OwnL EI (b1 + 2) W v xs) (hv : Below W.heap.size W V) (hk : Ko V b1 W') : OwnL EI (b1 + 2) W' v xs := (h.bel hv).blk (fun g e => hk.block g (fun e2 => by have := (h.row.lt g e).1; omega))
theorem own_sl {N : Nat} {w : World} {v : Value} {xs : List Int} (h : OwnL EI N w v xs) : ∃ a c, v = .slice a xs.length c := by
  obtain ⟨a, c, e, -⟩ := h.form
  exact ⟨a, c, e⟩
theorem oc_res {W : World} {b : Nat} {x : Of} {s : Oa} (h : SB OfK b (ofL x s) W) {tm : Array Value} (t2 : (tm[2]?).getD undef = .pointer (some ⟨b, 0, none⟩)) : (results Try.f17 tm).run Try.prog W = .ok (.agg (ofL x s).toArray) W := by
  have c0 := h.cell 0
  have c1 := h.cell 1
  have c2 := h.cell 2
  have c3 := h.cell 3
  have c4 := h.cell 4
  have c5 := h.cell 5
  have c6 := h.cell 6
  have c7 := h.cell 7
  have c8 := h.cell 8
  have c9 := h.cell 9
  have c10 := h.cell 10
  have c11 := h.cell 11
  have c12 := h.cell 12
  simp only [ofL, List.getElem?_cons_zero, List.getElem?_cons_succ] at c0 c1 c2 c3 c4 c5 c6 c7 c8 c9 c10 c11 c12
  simp [results, Try.results17, go_sem, ofL, t2, c0, c1, c2, c3, c4, c5, c6, c7, c8, c9, c10, c11, c12]
def zeroOf : List Value := [.int .u32 0, .int .i64 0, .slice none 0 0, .int .i64 0, .int .i64 0, .int .i64 0, .int .u32 0, .slice none 0 0, .slice none 0 0, .int .i64 0, .int .i64 0, .bool false, .int .i64 0]
set_option maxRecDepth 100000 in
set_option maxHeartbeats 16000000 in
theorem oc_any (x : Of) (s : Oa) (w : World) (h : OfOk w 1048576 x s) : Calls Try.prog 17 #[.agg (ofL x s).toArray] w (OcPost w x) := by
  have HOK : Hid (OfOk w 1048576 x s) := h
  clear h
  go_enter Try.func17, Try.ntmps17
  go_upto_region 1 with (refine list_sboxf OfK rfl _ rfl (cs := ofL x s) rfl ?_; intro b1 W0 hx hg hbf hgs)
  obtain ⟨b2, hb2⟩ : ∃ y, W0.heap.size = y := ⟨_, rfl⟩
  obtain ⟨W1, hW1⟩ : ∃ y, W0.alloc (Obj.cells #[.int .u32 0, .int .i64 0, .slice none 0 0, .int .i64 0, .int .i64 0, .int .i64 0, .int .u32 0, .slice none 0 0, .slice none 0 0, .int .i64 0, .int .i64 0, .bool false, .int .i64 0] 35) = y := ⟨_, rfl⟩
  have hn : Below W0.heap.size W0 W1 := by rw [← hW1]; exact (Below.refl _ _).alloc (Nat.le_refl _) _
  have HB1 : Hid (Below w.heap.size w W1 ∧ w.heap.size ≤ b1 ∧ b1 < W1.heap.size ∧ w.heap.size ≤ b2 ∧ b2 < W1.heap.size) := by
    have h1 := SB.lt hx.out
    have h2 := hg.out.bel.size
    have h3 := hn.size
    have h4 := hbf.out
    have h5 : W1.heap.size = W0.heap.size + 1 := by rw [← hW1]; simp
    exact ⟨hg.out.bel.trans (hn.mono hg.out.bel.size), by omega, by omega, by omega, by omega⟩
  have HS1 : Hid (SB OfK b1 (ofL x s) W1 ∧ SB OfK b2 zeroOf W1 ∧ b1 ≠ b2) := ⟨hx.out.blk (hn.block b1 (SB.lt hx.out)), by rw [← hW1, ← hb2]; exact World.alloc_heap_new W0 _, by have h1 := SB.lt hx.out; omega⟩
  have hb21 : b2 = b1 + 1 := by
    have h1 := hgs.out
    have h2 := hbf.out
    omega
  rw [hb2, hW1]
  clear hx hg hbf hgs hb2 hW1 hn
  have HB12 : Hid (b2 = b1 + 1) := hb21
  clear hb21
  obtain ⟨s1, hs1⟩ : ∃ y : Oa, y = s := ⟨_, rfl⟩
  have HF1 : Hid (s1 = s) := hs1
  have HL1 : Hid (Oc3 0 (b1 + 2) W1 x s1) := ⟨fun h => by omega, fun h => by omega, fun h => by omega⟩
  have HP1 : Hid ((s1.p = s.p ∧ s1.pc = s.pc) ∧ (s1.m = s.m ∧ s1.mc = s.mc) ∧ (s1.c = s.c ∧ s1.cc = s.cc)) := by rw [hs1]; exact ⟨⟨rfl, rfl⟩, ⟨rfl, rfl⟩, ⟨rfl, rfl⟩⟩
  rw [← hs1] at HS1
  clear hs1
  obtain ⟨n1, hn1⟩ : ∃ y, x.path.length = y := ⟨_, rfl⟩
  obtain ⟨sa1, hsa1⟩ : ∃ y, s1.p = y := ⟨_, rfl⟩
  obtain ⟨sc1, hsc1⟩ : ∃ y, s1.pc = y := ⟨_, rfl⟩
  have HSRC1 : Hid (Lst EI W1 sa1 x.path ∧ (sa1 = none → n1 = 0 ∧ sc1 = 0) ∧ n1 ≤ 1048576 ∧ x.path.length = n1) := by
    rw [← hsa1, ← hn1, ← hsc1, HP1.out.1.1, HP1.out.1.2]
    exact ⟨HOK.out.kp.bel HB1.out.1, HOK.out.np, HOK.out.bp, rfl⟩
  have c1 : (W1.alloc (Obj.cells #[] 3)).cell? ⟨b1, 2, none⟩ = some (.slice sa1 n1 sc1) := by rw [← hsa1, ← hn1, ← hsc1]; exact (World.cell?_of_block (w := W1) ((own_made0 EI (W := W1) rfl).2.block b1 HB1.out.2.2.1)).trans (HS1.out.1.cell 2)
  clear hn1 hsa1 hsc1
  have HM1 := own_made0 EI (W := W1) rfl
  go_wp2_with (at_builtin; refine list_appL EI rfl _ _ 24 rfl rfl W1.heap.size (.slice (some ⟨W1.heap.size, 0, none⟩) 0 0) [] x.path sa1 n1 sc1 (W1.alloc (Obj.cells #[] 3)) (by have := HSRC1.out.2.2.1; simp; omega) rfl HM1.1 rfl (HSRC1.out.1.bel HM1.2) HSRC1.out.2.1 HSRC1.out.2.2.2 HM1.2.size ?_)
  intro v1 V1 ho1 hg1 hw1
  obtain ⟨na1, nc1, rfl⟩ := own_sl ho1.out
  have HV1 : Hid (Below W1.heap.size W1 V1) := HM1.2.trans ((Below.refl _ _).grown hg1.out HM1.2.size (fun k e => by cases e; exact Nat.le_refl _))
  have HO1 : Hid (OwnL EI W1.heap.size V1 (.slice na1 n1 nc1) x.path) := by
    have h5 := ho1.out
    try simp only [List.nil_append] at h5
    rw [HSRC1.out.2.2.2] at h5
    exact h5
  have hl1 : x.path.length = n1 := HSRC1.out.2.2.2
  rw [hl1]
  have k1 : V1.cell? ⟨b1, 2, none⟩ = some (.slice sa1 n1 sc1) := (World.cell?_of_block (w := W1.alloc (Obj.cells #[] 3)) (hg1.out.block b1 (Nat.lt_of_lt_of_le HB1.out.2.2.1 HM1.2.size) (fun e => by have h9 : b1 = W1.heap.size := Option.some.inj e; have := HB1.out.2.2.1; omega))).trans c1
  have f1 : V1.frozen? ⟨b1, 2, none⟩ = false := (SB.blk HS1.out.1 (HV1.out.block b1 HB1.out.2.2.1)).fro 2
  clear ho1 hg1 hw1 HM1 c1 hl1
  go_upto_region 2 with fail
  obtain ⟨W2, hW2⟩ : ∃ y, V1.setCell ⟨b1, 2, none⟩ (.slice na1 n1 nc1) = y := ⟨_, rfl⟩
  have hk1 := Ko.set V1 b1 2 (.slice na1 n1 nc1)
  rw [hW2] at hk1 ⊢
  obtain ⟨s2, hs2⟩ : ∃ y : Oa, y = { s1 with p := na1, pc := nc1 } := ⟨_, rfl⟩
  have HS2 : Hid (SB OfK b1 (ofL x s2) W2 ∧ SB OfK b2 zeroOf W2 ∧ b1 ≠ b2) := by
    refine ⟨?_, (HS1.out.2.1.blk (HV1.out.block b2 HB1.out.2.2.2.2)).blk (hk1.block b2 (Ne.symm HS1.out.2.2)), HS1.out.2.2⟩
    rw [← hW2]
    refine SB.set (HS1.out.1.blk (HV1.out.block b1 HB1.out.2.2.1)) 2 _ ?_
    rw [hs2, ← HSRC1.out.2.2.2]
    rfl
  have HB2 : Hid (Below w.heap.size w W2 ∧ w.heap.size ≤ b1 ∧ b1 < W2.heap.size ∧ w.heap.size ≤ b2 ∧ b2 < W2.heap.size) := by
    obtain ⟨q1, q2, q3, q4, q5⟩ := HB1.out
    have q6 := HV1.out.size
    have q7 := hk1.size
    exact ⟨q1.trans ((HV1.out.mono q1.size).trans (hk1.below q2)), q2, by omega, q4, by omega⟩
  have HNW1 : Hid (OwnL EI (b1 + 2) W2 (.slice s2.p x.path.length s2.pc) x.path) := by
    have h5 := (HO1.out.mono (show b1 + 2 ≤ W1.heap.size by have h7 := HB1.out.2.2.2.2; have h8 := HB12.out; omega)).blk (w' := W2) (fun g e => hk1.block g (fun e2 => by have h6 := (HO1.out.row.lt g e).1; have h7 := HB1.out.2.2.1; omega))
    rw [hs2, HSRC1.out.2.2.2]
    exact h5
  have HL2 : Hid (Oc3 1 (b1 + 2) W2 x s2) := ⟨fun _ => HNW1.out, fun h => by omega, fun h => by omega⟩
  have HP2 : Hid ((s2.m = s.m ∧ s2.mc = s.mc) ∧ (s2.c = s.c ∧ s2.cc = s.cc)) := by first | exact trivial | (rw [hs2]; exact ⟨HP1.out.2.1, HP1.out.2.2⟩)
  clear hW2 hk1 HO1 k1 f1 HS1 HB1 HSRC1 HNW1 HL1 HP1 HV1 hs2
  obtain ⟨n2, hn2⟩ : ∃ y, x.marks.length = y := ⟨_, rfl⟩
  obtain ⟨sa2, hsa2⟩ : ∃ y, s2.m = y := ⟨_, rfl⟩
  obtain ⟨sc2, hsc2⟩ : ∃ y, s2.mc = y := ⟨_, rfl⟩
  have HSRC2 : Hid (Lst EI W2 sa2 x.marks ∧ (sa2 = none → n2 = 0 ∧ sc2 = 0) ∧ n2 ≤ 1048576 ∧ x.marks.length = n2) := by
    rw [← hsa2, ← hn2, ← hsc2, HP2.out.1.1, HP2.out.1.2]
    exact ⟨HOK.out.km.bel HB2.out.1, HOK.out.nm, HOK.out.bm, rfl⟩
  have c2 : (W2.alloc (Obj.cells #[] 3)).cell? ⟨b1, 7, none⟩ = some (.slice sa2 n2 sc2) := by rw [← hsa2, ← hn2, ← hsc2]; exact (World.cell?_of_block (w := W2) ((own_made0 EI (W := W2) rfl).2.block b1 HB2.out.2.2.1)).trans (HS2.out.1.cell 7)
  clear hn2 hsa2 hsc2
  have HM2 := own_made0 EI (W := W2) rfl
  go_wp2_with (at_builtin; refine list_appL EI rfl _ _ 24 rfl rfl W2.heap.size (.slice (some ⟨W2.heap.size, 0, none⟩) 0 0) [] x.marks sa2 n2 sc2 (W2.alloc (Obj.cells #[] 3)) (by have := HSRC2.out.2.2.1; simp; omega) rfl HM2.1 rfl (HSRC2.out.1.bel HM2.2) HSRC2.out.2.1 HSRC2.out.2.2.2 HM2.2.size ?_)
  intro v2 V2 ho2 hg2 hw2
  obtain ⟨na2, nc2, rfl⟩ := own_sl ho2.out
  have HV2 : Hid (Below W2.heap.size W2 V2) := HM2.2.trans ((Below.refl _ _).grown hg2.out HM2.2.size (fun k e => by cases e; exact Nat.le_refl _))
  have HO2 : Hid (OwnL EI W2.heap.size V2 (.slice na2 n2 nc2) x.marks) := by
    have h5 := ho2.out
    try simp only [List.nil_append] at h5
    rw [HSRC2.out.2.2.2] at h5
    exact h5
  have hl2 : x.marks.length = n2 := HSRC2.out.2.2.2
  rw [hl2]
  have k2 : V2.cell? ⟨b1, 7, none⟩ = some (.slice sa2 n2 sc2) := (World.cell?_of_block (w := W2.alloc (Obj.cells #[] 3)) (hg2.out.block b1 (Nat.lt_of_lt_of_le HB2.out.2.2.1 HM2.2.size) (fun e => by have h9 : b1 = W2.heap.size := Option.some.inj e; have := HB2.out.2.2.1; omega))).trans c2
  have f2 : V2.frozen? ⟨b1, 7, none⟩ = false := (SB.blk HS2.out.1 (HV2.out.block b1 HB2.out.2.2.1)).fro 7
  clear ho2 hg2 hw2 HM2 c2 hl2
  go_upto_region 3 with fail
  obtain ⟨W3, hW3⟩ : ∃ y, V2.setCell ⟨b1, 7, none⟩ (.slice na2 n2 nc2) = y := ⟨_, rfl⟩
  have hk2 := Ko.set V2 b1 7 (.slice na2 n2 nc2)
  rw [hW3] at hk2 ⊢
  obtain ⟨s3, hs3⟩ : ∃ y : Oa, y = { s2 with m := na2, mc := nc2 } := ⟨_, rfl⟩
  have HS3 : Hid (SB OfK b1 (ofL x s3) W3 ∧ SB OfK b2 zeroOf W3 ∧ b1 ≠ b2) := by
    refine ⟨?_, (HS2.out.2.1.blk (HV2.out.block b2 HB2.out.2.2.2.2)).blk (hk2.block b2 (Ne.symm HS2.out.2.2)), HS2.out.2.2⟩
    rw [← hW3]
    refine SB.set (HS2.out.1.blk (HV2.out.block b1 HB2.out.2.2.1)) 7 _ ?_
    rw [hs3, ← HSRC2.out.2.2.2]
    rfl
  have HB3 : Hid (Below w.heap.size w W3 ∧ w.heap.size ≤ b1 ∧ b1 < W3.heap.size ∧ w.heap.size ≤ b2 ∧ b2 < W3.heap.size) := by
    obtain ⟨q1, q2, q3, q4, q5⟩ := HB2.out
    have q6 := HV2.out.size
    have q7 := hk2.size
    exact ⟨q1.trans ((HV2.out.mono q1.size).trans (hk2.below q2)), q2, by omega, q4, by omega⟩
  have HNW2 : Hid (OwnL EI (b1 + 2) W3 (.slice s3.m x.marks.length s3.mc) x.marks) := by
    have h5 := (HO2.out.mono (show b1 + 2 ≤ W2.heap.size by have h7 := HB2.out.2.2.2.2; have h8 := HB12.out; omega)).blk (w' := W3) (fun g e => hk2.block g (fun e2 => by have h6 := (HO2.out.row.lt g e).1; have h7 := HB2.out.2.2.1; omega))
    rw [hs3, HSRC2.out.2.2.2]
    exact h5
  have HL3 : Hid (Oc3 2 (b1 + 2) W3 x s3) := ⟨fun _ => by have h9 := oc_keep (HL2.out.p (by omega)) HV2.out hk2; rw [hs3]; exact h9, fun _ => HNW2.out, fun h => by omega⟩
  have HP3 : Hid (s3.c = s.c ∧ s3.cc = s.cc) := by first | exact trivial | (rw [hs3]; exact HP2.out.2)
  clear hW3 hk2 HO2 k2 f2 HS2 HB2 HSRC2 HNW2 HL2 HP2 HV2 hs3
  obtain ⟨n3, hn3⟩ : ∃ y, x.clus.length = y := ⟨_, rfl⟩
  obtain ⟨sa3, hsa3⟩ : ∃ y, s3.c = y := ⟨_, rfl⟩
  obtain ⟨sc3, hsc3⟩ : ∃ y, s3.cc = y := ⟨_, rfl⟩
  have HSRC3 : Hid (Lst EI W3 sa3 x.clus ∧ (sa3 = none → n3 = 0 ∧ sc3 = 0) ∧ n3 ≤ 1048576 ∧ x.clus.length = n3) := by
    rw [← hsa3, ← hn3, ← hsc3, HP3.out.1, HP3.out.2]
    exact ⟨HOK.out.kc.bel HB3.out.1, HOK.out.nc, HOK.out.bc, rfl⟩
  have c3 : (W3.alloc (Obj.cells #[] 3)).cell? ⟨b1, 8, none⟩ = some (.slice sa3 n3 sc3) := by rw [← hsa3, ← hn3, ← hsc3]; exact (World.cell?_of_block (w := W3) ((own_made0 EI (W := W3) rfl).2.block b1 HB3.out.2.2.1)).trans (HS3.out.1.cell 8)
  clear hn3 hsa3 hsc3
  have HM3 := own_made0 EI (W := W3) rfl
  go_wp2_with (at_builtin; refine list_appL EI rfl _ _ 24 rfl rfl W3.heap.size (.slice (some ⟨W3.heap.size, 0, none⟩) 0 0) [] x.clus sa3 n3 sc3 (W3.alloc (Obj.cells #[] 3)) (by have := HSRC3.out.2.2.1; simp; omega) rfl HM3.1 rfl (HSRC3.out.1.bel HM3.2) HSRC3.out.2.1 HSRC3.out.2.2.2 HM3.2.size ?_)
  intro v3 V3 ho3 hg3 hw3
  obtain ⟨na3, nc3, rfl⟩ := own_sl ho3.out
  have HV3 : Hid (Below W3.heap.size W3 V3) := HM3.2.trans ((Below.refl _ _).grown hg3.out HM3.2.size (fun k e => by cases e; exact Nat.le_refl _))
  have HO3 : Hid (OwnL EI W3.heap.size V3 (.slice na3 n3 nc3) x.clus) := by
    have h5 := ho3.out
    try simp only [List.nil_append] at h5
    rw [HSRC3.out.2.2.2] at h5
    exact h5
  have hl3 : x.clus.length = n3 := HSRC3.out.2.2.2
  rw [hl3]
  have k3 : V3.cell? ⟨b1, 8, none⟩ = some (.slice sa3 n3 sc3) := (World.cell?_of_block (w := W3.alloc (Obj.cells #[] 3)) (hg3.out.block b1 (Nat.lt_of_lt_of_le HB3.out.2.2.1 HM3.2.size) (fun e => by have h9 : b1 = W3.heap.size := Option.some.inj e; have := HB3.out.2.2.1; omega))).trans c3
  have f3 : V3.frozen? ⟨b1, 8, none⟩ = false := (SB.blk HS3.out.1 (HV3.out.block b1 HB3.out.2.2.1)).fro 8
  clear ho3 hg3 hw3 HM3 c3 hl3
  go_upto_region 4 with fail
  obtain ⟨W4, hW4⟩ : ∃ y, V3.setCell ⟨b1, 8, none⟩ (.slice na3 n3 nc3) = y := ⟨_, rfl⟩
  have hk3 := Ko.set V3 b1 8 (.slice na3 n3 nc3)
  rw [hW4] at hk3 ⊢
  obtain ⟨s4, hs4⟩ : ∃ y : Oa, y = { s3 with c := na3, cc := nc3 } := ⟨_, rfl⟩
  have HS4 : Hid (SB OfK b1 (ofL x s4) W4 ∧ SB OfK b2 zeroOf W4 ∧ b1 ≠ b2) := by
    refine ⟨?_, (HS3.out.2.1.blk (HV3.out.block b2 HB3.out.2.2.2.2)).blk (hk3.block b2 (Ne.symm HS3.out.2.2)), HS3.out.2.2⟩
    rw [← hW4]
    refine SB.set (HS3.out.1.blk (HV3.out.block b1 HB3.out.2.2.1)) 8 _ ?_
    rw [hs4, ← HSRC3.out.2.2.2]
    rfl
  have HB4 : Hid (Below w.heap.size w W4 ∧ w.heap.size ≤ b1 ∧ b1 < W4.heap.size ∧ w.heap.size ≤ b2 ∧ b2 < W4.heap.size) := by
    obtain ⟨q1, q2, q3, q4, q5⟩ := HB3.out
    have q6 := HV3.out.size
    have q7 := hk3.size
    exact ⟨q1.trans ((HV3.out.mono q1.size).trans (hk3.below q2)), q2, by omega, q4, by omega⟩
  have HNW3 : Hid (OwnL EI (b1 + 2) W4 (.slice s4.c x.clus.length s4.cc) x.clus) := by
    have h5 := (HO3.out.mono (show b1 + 2 ≤ W3.heap.size by have h7 := HB3.out.2.2.2.2; have h8 := HB12.out; omega)).blk (w' := W4) (fun g e => hk3.block g (fun e2 => by have h6 := (HO3.out.row.lt g e).1; have h7 := HB3.out.2.2.1; omega))
    rw [hs4, HSRC3.out.2.2.2]
    exact h5
  have HL4 : Hid (Oc3 3 (b1 + 2) W4 x s4) := ⟨fun _ => by have h9 := oc_keep (HL3.out.p (by omega)) HV3.out hk3; rw [hs4]; exact h9, fun _ => by have h9 := oc_keep (HL3.out.m (by omega)) HV3.out hk3; rw [hs4]; exact h9, fun _ => HNW3.out⟩
  have HP4 : Hid (True) := by first | exact trivial | (rw [hs4]; exact trivial)
  clear hW4 hk3 HO3 k3 f3 HS3 HB3 HSRC3 HNW3 HL3 HP3 HV3 hs4
  have HSZ := HS4.out.2.1
  go_wp2_with (refine list_sload OfK rfl _ rfl (b := b1) (cs := ofL x s4) rfl HS4.out.1 rfl ?_; refine list_sstore OfK rfl _ _ rfl (b := b2) (cs := zeroOf) (cs' := ofL x s4) rfl rfl HS4.out.2.1 rfl rfl rfl ?_)
  intro W5 hx hk
  have HE : Hid (OcPost w x (.returned (.agg (ofL x s4).toArray)) W5 ∧ SB OfK b2 (ofL x s4) W5) := by
    obtain ⟨q1, q2, q3, q4, q5⟩ := HB4.out
    have hkp : ∀ (v : Value) (L : List Int), OwnL EI (b1 + 2) W4 v L → OwnL EI w.heap.size W5 v L := fun v L h => (h.blk (fun g e => hk.out.block g (fun e2 => by have h6 := (h.row.lt g e).1; have h7 := HB12.out; omega))).mono (by omega)
    exact ⟨⟨s4, rfl, q1.trans (hk.out.below q4), ⟨hkp _ _ (HL4.out.p (by omega)), hkp _ _ (HL4.out.m (by omega)), hkp _ _ (HL4.out.c (by omega))⟩⟩, hx.out⟩
  clear hx hk
  go_wp2_with fail
  exact bodyPost_ret (oc_res HE.out.2 rfl) rfl HE.out.1
end Go.Proofs.Ytkahjibdmhaglaa.Ch
