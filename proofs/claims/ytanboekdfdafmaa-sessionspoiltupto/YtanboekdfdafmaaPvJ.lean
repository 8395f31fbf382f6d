/- Parts of a message as bytes: prefixesOf, putPiece, updateOf. -/
import Derived.Test.YtanboekdfdafmaaPvF
import Derived.Deep.CutRange
import Derived.Deep.RegionHeld3
namespace Go.Proofs.Ytanboekdfdafmaa.Pv
open Go.ChangeShapes Go.WideShapes Go.ChangeAt Go.RowKit Go.Joins Go.Proofs.Ytanboekdfdafmaa.PM Go.Proofs.Ytanboekdfdafmaa.Ask Go.Proofs.Ytanboekdfdafmaa.Ge
set_option linter.unusedVariables false

/-- nothing old has turned but the bytes' own block -/
structure Kp (w : World) (own : Option Nat) (w' : World) (own' : Option Nat) : Prop where
  str : Below 0 w w'
  now : own' = own ∨ ∃ g, own' = some g ∧ w.heap.size ≤ g
  block : ∀ b, b < w.heap.size → some b ≠ own → w'.heap[b]? = w.heap[b]?
theorem Kp.refl (w : World) (own : Option Nat) : Kp w own w own := ⟨Below.refl _ _, .inl rfl, fun _ _ _ => rfl⟩
theorem Kp.trans {w w1 w2 : World} {o o1 o2 : Option Nat} (h : Kp w o w1 o1) (k : Kp w1 o1 w2 o2) : Kp w o w2 o2 := by
  refine ⟨h.str.trans k.str, ?_, fun b hb ho => (k.block b (Nat.lt_of_lt_of_le hb h.str.size) ?_).trans (h.block b hb ho)⟩
  · rcases k.now with e | ⟨g, e, hg⟩
    · rw [e]; exact h.now
    · exact .inr ⟨g, e, Nat.le_trans h.str.size hg⟩
  · rcases h.now with e | ⟨g, e, hg⟩
    · rw [e]; exact ho
    · rw [e]; intro e2; cases e2; omega
theorem Kp.below {N : Nat} {w w' : World} {v0 : Value} {o' : Option Nat} {bs : List Nat} (k : Kp w v0.ownBlock w' o') (h : OwnL E8 N w v0 bs) (hN : N ≤ w.heap.size) : Below N w w' :=
  ⟨k.str.os, k.str.tape, k.str.output, k.str.size, fun b hb => k.block b (Nat.lt_of_lt_of_le hb hN) (fun e => by have := (h.row.lt b e.symm).1; omega)⟩
theorem Kp.grown {w w' : World} {v0 : Value} {o' : Option Nat} (hg : w.grownBy w' v0.ownBlock) (hat : o' = v0.ownBlock ∨ o' = some w.heap.size) : Kp w v0.ownBlock w' o' :=
  ⟨(Below.refl 0 w).grown hg (Nat.zero_le _) (fun _ _ => Nat.zero_le _), by
    rcases hat with e | e
    · exact .inl e
    · exact .inr ⟨_, e, Nat.le_refl _⟩, fun b hb hne => hg.block b hb hne⟩
set_option maxRecDepth 100000 in
set_option maxHeartbeats 4000000 in
theorem putk_any (N : Nat) (v0 : Value) (bs : List Nat) (size n : Nat) (hs8 : size ≤ 8) (hn : n < 9223372036854775808) (hbig : bs.length ≤ 1048576) (w : World) (hN : N ≤ w.heap.size) (h : OwnL E8 N w v0 bs) :
    Calls Try.prog 51 #[v0, .int .i64 (size : Int), .int .i64 (n : Int)] w fun e w' => ∃ v', e = .returned v' ∧ OwnL E8 N w' v' (bs ++ big size n) ∧ Kp w v0.ownBlock w' v'.ownBlock := by
  have H : Hid (OwnL E8 N w v0 bs) := h
  clear h
  go_enter Try.func51, Try.ntmps51
  go_wp2_with fail
  go_loopw [0, 9] (fun bv iv wr => ∃ (k : Nat), k ≤ size ∧ iv = .int .i64 k ∧ OwnL E8 N wr bv (bs ++ (big size n).take k) ∧ Kp w v0.ownBlock wr bv.ownBlock) (fun _ i _ => size - (intOf i).toNat)
  case atStart => exact ⟨0, by omega, rfl, by simpa using H.out, Kp.refl _ _⟩
  case round =>
    obtain ⟨k, hk, rfl, hob, hkp⟩ := hrel
    have HO : Hid (OwnL E8 N wr u0 (bs ++ (big size n).take k)) := hob
    have HK : Hid (Kp w v0.ownBlock wr u0.ownBlock) := hkp
    clear hob hkp
    by_cases hlt : k < size
    · have hkk : (k : Int) < size := by omega
      have kk0 : (0 : Int) ≤ k := by omega
      obtain ⟨bs1, hbs⟩ : ∃ b, bs ++ (big size n).take k = b := ⟨_, rfl⟩
      have hl1 : bs1.length ≤ 1048584 := by rw [← hbs, List.length_append, List.length_take]; omega
      obtain ⟨c, hc⟩ : ∃ c, n / 2 ^ (8 * (size - 1 - k)) % 256 = c := ⟨_, rfl⟩
      have HNX : Hid (bs1 ++ [c] = bs ++ (big size n).take (k + 1)) := by
        show _ = _
        rw [← hbs, List.take_succ_eq_append_getElem (by simp [big]; exact hlt), List.append_assoc]
        simp [big, hc]
      rw [hbs] at HO
      have w1 : IntKind.i64.wrap ((size : Int) - 1) = ((size - 1 : Nat) : Int) := by rw [IntWalk.i64_in _ (by omega)]; omega
      have w2 : IntKind.i64.wrap (((size - 1 : Nat) : Int) - (k : Int)) = ((size - 1 - k : Nat) : Int) := by rw [IntWalk.i64_in _ (by omega)]; omega
      have w3 : IntKind.i64.wrap (8 * ((size - 1 - k : Nat) : Int)) = ((8 * (size - 1 - k) : Nat) : Int) := by rw [IntWalk.i64_in _ (by omega)]; omega
      have hcv : (n : Int) / 2 ^ (8 * (size - 1 - k)) % 256 = (c : Int) := by
        rw [← hc]
        simp
      obtain ⟨W, hW⟩ : ∃ W, wr.alloc (Obj.cells #[.int .u8 (c : Int)] 5) = W := ⟨_, rfl⟩
      have HWE : Hid (wr.alloc (Obj.cells (E8.enc c).toArray E8.e) = W) := hW
      have hbl : Below wr.heap.size wr W := by rw [← hW]; exact (Below.refl _ wr).alloc (Nat.le_refl _) _
      have HWA : Hid (OwnL E8 N W u0 bs1) := HO.out.bel hbl
      have HB : Hid (Below wr.heap.size wr W) := hbl
      have hNW : N ≤ W.heap.size := Nat.le_trans hN (Nat.le_trans HK.out.str.size hbl.size)
      have hby : bs1.length ≤ 1099511627775 := by omega
      clear hbs hc hbl
      go_wp2_with (at_builtin; refine list_app1 E8 rfl _ _ 32 rfl rfl N u0 bs1 c hby (w := wr) W rfl HWA.out rfl hNW HWE.out.symm ?_)
      intro v' w' ho' hg' hat'
      have HO' : Hid (OwnL E8 N w' v' (bs ++ (big size n).take (k + 1))) := by have := ho'.out; rw [HNX.out] at this; exact this
      have HK' : Hid (Kp w v0.ownBlock w' v'.ownBlock) := HK.out.trans ⟨(HB.out.mono (Nat.zero_le _)).grown hg'.out (Nat.zero_le _) (fun _ _ => Nat.zero_le _), by
        rcases hat'.out with e | e
        · exact .inl e
        · exact .inr ⟨_, e, HB.out.size⟩, fun b hb hne => (hg'.out.block b (Nat.lt_of_lt_of_le hb HB.out.size) hne).trans (HB.out.block b hb)⟩
      clear ho' hg' hat'
      go_wp2_with fail
      exact ⟨⟨k + 1, by omega, by simp, HO'.out, HK'.out⟩, by simp [intOf]; omega⟩
    · obtain rfl : size = k := by omega
      have HE : Hid (OwnL E8 N wr u0 (bs ++ big size n)) := by
        have h1 := HO.out
        rw [List.take_of_length_le (by simp [big])] at h1
        exact h1
      obtain ⟨va, vc, rfl, -⟩ := HE.out.form
      obtain ⟨vl, hvl⟩ : ∃ q, (bs ++ big size n).length = q := ⟨_, rfl⟩
      rw [hvl] at HE HK
      rw [hvl]
      clear HO hvl
      go_wp2_with fail
      go_ret
      exact ⟨_, rfl, HE.out, HK.out⟩

set_option maxHeartbeats 4000000 in
theorem bytesOf_any (n : Nat) (hn : n ≤ 32) (z : Nat) (hz : bsz n = z) (w : World) :
    Calls Try.prog 67 #[.int .i64 (n : Int)] w fun e w' => e = .returned (.int .i64 (z : Int)) ∧ w' = w := by
  have HZ : Hid (bsz n = z) := hz
  have w1 : IntKind.i64.wrap ((n : Int) + 8) = ((n + 8 : Nat) : Int) := by rw [IntWalk.i64_in _ (by omega)]; omega
  have w2 : IntKind.i64.wrap (((n + 8 : Nat) : Int) - 1) = ((n + 7 : Nat) : Int) := by rw [IntWalk.i64_in _ (by omega)]; omega
  clear hz
  go_enter Try.func67, Try.ntmps67
  go_wp2_with fail
  go_ret
  refine ⟨ret_i64 ?_, rfl⟩
  rw [← HZ.out]
  unfold bsz
  omega
theorem bsz_le {n : Nat} (h : n ≤ 32) : bsz n ≤ 4 := by unfold bsz; omega
theorem pfxB_len {p : Int × Int} (h : p.2.toNat ≤ 32) : (pfxB p).length ≤ 5 := by
  unfold pfxB
  rw [List.length_append, big_len, big_len]
  have := bsz_le h
  omega
theorem pfxsB_len : ∀ {ps : List (Int × Int)}, (∀ p ∈ ps, p.2.toNat ≤ 32) → (pfxsB ps).length ≤ 5 * ps.length ∧ ps.length ≤ (pfxsB ps).length
  | [], _ => by simp [pfxsB]
  | p :: ps, h => by
    have ih := pfxsB_len (fun q hq => h q (List.mem_cons_of_mem _ hq))
    have h1 := pfxB_len (h p (List.mem_cons_self ..))
    have h2 : 1 ≤ (pfxB p).length := by unfold pfxB; rw [List.length_append, big_len]; omega
    have e : pfxsB (p :: ps) = pfxB p ++ pfxsB ps := rfl
    rw [e, List.length_append, List.length_cons]
    omega
theorem pfxsB_snoc (ps : List (Int × Int)) (i : Nat) (h : i < ps.length) : pfxsB (ps.take (i + 1)) = pfxsB (ps.take i) ++ pfxB ps[i] := by
  unfold pfxsB
  rw [List.take_succ_eq_append_getElem h, List.flatMap_append]
  simp
set_option maxRecDepth 100000 in
set_option maxHeartbeats 8000000 in
theorem prefixesOf_any (va : Option Addr) (cap : Nat) (ps : List (Int × Int)) (n : Nat) (hn : ps.length = n) (hbig : n ≤ 100000) (w : World) (hl : Lst E2 w va ps) (hp : ∀ p ∈ ps, InA p) (hv : ∀ p ∈ ps, 0 ≤ p.2 ∧ p.2 ≤ 32) :
    Calls Try.prog 53 #[.slice va n cap] w fun e w' => ∃ v, e = .returned v ∧ OwnL E8 w.heap.size w' v (pfxsB ps) ∧ Below w.heap.size w w' := by
  have HL : Hid (Lst E2 w va ps) := hl
  have HP : Hid (∀ p ∈ ps, InA p) := hp
  have HV : Hid (∀ p ∈ ps, 0 ≤ p.2 ∧ p.2 ≤ 32) := hv
  have HN : Hid (ps.length = n) := hn
  clear hl hp hn hv
  go_enter Try.func53, Try.ntmps53
  go_wp2_with fail
  go_loopw [3, 9] (fun bv iv wr => ∃ i : Nat, i ≤ n ∧ iv = .int .i64 (i : Int) ∧ OwnL E8 w.heap.size wr bv (pfxsB (ps.take i)) ∧ Below w.heap.size w wr) (fun _ i _ => n - (intOf i).toNat)
  case atStart => exact ⟨0, by omega, rfl, OwnL.nil _ _ _, Below.refl _ _⟩
  case round =>
    obtain ⟨i, hi, rfl, ho, hb⟩ := hrel
    have HO : Hid (OwnL E8 w.heap.size wr u3 (pfxsB (ps.take i))) := ho
    have HB : Hid (Below w.heap.size w wr) := hb
    clear ho hb
    by_cases hlt : i < n
    · have hil : i < ps.length := by rw [HN.out]; exact hlt
      obtain ⟨b, o, rfl, hbl, c0, c1⟩ := lst2 (HL.out.bel HB.out) i hil
      have hin := HP.out _ (List.getElem_mem hil)
      have hvl := HV.out _ (List.getElem_mem hil)
      have HNX : Hid (pfxsB (ps.take (i + 1)) = pfxsB (ps.take i) ++ pfxB ps[i]) := pfxsB_snoc ps i hil
      have hlen : (pfxsB (ps.take i)).length ≤ 500000 := by
        have h1 := (pfxsB_len (ps := ps.take i) (fun p hp => by have := HV.out p (List.mem_of_mem_take hp); omega)).1
        rw [List.length_take] at h1
        omega
      obtain ⟨⟨pa, pn⟩, hpp⟩ : ∃ p, ps[i] = p := ⟨_, rfl⟩
      rw [hpp] at c0 c1 hin hvl HNX
      obtain ⟨p0, p1⟩ := hin
      obtain ⟨q0, q1⟩ := hvl
      dsimp only at p0 p1 q0 q1 c0 c1
      obtain ⟨A, rfl⟩ : ∃ A : Nat, pa = A := ⟨pa.toNat, by omega⟩
      obtain ⟨L, rfl⟩ : ∃ L : Nat, pn = L := ⟨pn.toNat, by omega⟩
      have hL : L ≤ 32 := by omega
      obtain ⟨z, hz⟩ : ∃ z, bsz L = z := ⟨_, rfl⟩
      have hz4 : z ≤ 4 := by rw [← hz]; exact bsz_le hL
      have HZ : Hid (bsz L = z) := hz
      obtain ⟨q, hq⟩ : ∃ q, A / 2 ^ (32 - 8 * z) = q := ⟨_, rfl⟩
      have HQ : Hid (pfxB ((A : Int), (L : Int)) = big 1 L ++ big z q) := by
        unfold pfxB
        show big 1 ((L : Int).toNat) ++ big (bsz (L : Int).toNat) ((A : Int).toNat / 2 ^ (32 - 8 * bsz (L : Int).toNat)) = _
        rw [Int.toNat_natCast, Int.toNat_natCast, hz, hq]
      have hq1 : q < 9223372036854775808 := by rw [← hq]; exact Nat.lt_of_le_of_lt (Nat.div_le_self _ _) (by omega)
      have hqv : (A : Int) / 2 ^ (32 - 8 * z) = (q : Int) := by rw [← hq]; simp
      have w3 : IntKind.i64.wrap (8 * (z : Int)) = ((8 * z : Nat) : Int) := by rw [IntWalk.i64_in _ (by omega)]; omega
      have w4 : IntKind.i64.wrap (32 - ((8 * z : Nat) : Int)) = ((32 - 8 * z : Nat) : Int) := by rw [IntWalk.i64_in _ (by omega)]; omega
      have hii : (i : Int) < n := by omega
      have ii0 : (0 : Int) ≤ i := by omega
      obtain ⟨bs, hbs⟩ : ∃ b, pfxsB (ps.take i) = b := ⟨_, rfl⟩
      rw [hbs] at HO HNX hlen
      clear hz hq hpp hbs
      go_upto_region 5 with fail
      obtain ⟨wA, hwA⟩ : ∃ wA, wr.alloc (Obj.cells #[.int .u32 (A : Int), .int .i64 (L : Int)] 49) = wA := ⟨_, rfl⟩
      obtain ⟨sa, hsa⟩ : ∃ k, wr.heap.size = k := ⟨_, rfl⟩
      have hbA : Below wr.heap.size wr wA := by rw [← hwA]; exact (Below.refl _ wr).alloc (Nat.le_refl _) _
      have d0 : wA.cell? ⟨sa, 0, none⟩ = some (.int .u32 (A : Int)) := by rw [← hwA, ← hsa]; simp
      have d1 : wA.cell? ⟨sa, 1, none⟩ = some (.int .i64 (L : Int)) := by rw [← hwA, ← hsa]; simp
      have hsA : sa < wA.heap.size := by rw [← hwA, ← hsa]; simp
      have HOA : Hid (OwnL E8 w.heap.size wA u3 bs) := HO.out.bel hbA
      have HBA : Hid (Below w.heap.size w wA) := HB.out.trans (hbA.mono HB.out.size)
      have HNE : Hid (¬ u3.ownBlock = some sa) := fun e => by have := (HO.out.row.lt sa e).2; omega
      rw [hwA, hsa]
      clear hwA hsa hbA HO c0 c1
      go_wp2_with fail
      refine (bytesOf_any L hL z HZ.out _).mono ?_
      rintro e w5 ⟨rfl, hw5⟩
      rw [hw5]
      clear hw5 w5
      go_wp2_with fail
      refine (putk_any w.heap.size u3 bs 1 L (by decide) (by omega) (by omega) wA HBA.out.size HOA.out).mono ?_
      rintro e w1 ⟨v1, rfl, ho1, hk1⟩
      have HB1 : Hid (Below w.heap.size w w1) := HBA.out.trans (hk1.below HOA.out HBA.out.size)
      have HO1 : Hid (OwnL E8 w.heap.size w1 v1 (bs ++ big 1 L)) := ho1
      have e0 : w1.cell? ⟨sa, 0, none⟩ = some (.int .u32 (A : Int)) := (World.cell?_of_block (w := wA) (hk1.block sa hsA (fun e => HNE.out e.symm))).trans d0
      clear ho1 hk1 d0 d1 HOA
      go_wp2_with fail
      refine (putk_any w.heap.size v1 (bs ++ big 1 L) z q (by omega) hq1 (by rw [List.length_append, big_len]; omega) w1 HB1.out.size HO1.out).mono ?_
      rintro e w2 ⟨v2, rfl, ho2, hk2⟩
      have HB2 : Hid (Below w.heap.size w w2) := HB1.out.trans (hk2.below HO1.out HB1.out.size)
      have HO2 : Hid (OwnL E8 w.heap.size w2 v2 (pfxsB (ps.take (i + 1)))) := by rw [HNX.out, HQ.out, ← List.append_assoc]; exact ho2
      clear ho2 hk2 e0 HO1
      go_wp2_with fail
      exact ⟨⟨i + 1, by omega, by simp, HO2.out, HB2.out⟩, by simp [intOf]; omega⟩
    · obtain rfl : i = n := by omega
      have HE : Hid (OwnL E8 w.heap.size wr u3 (pfxsB ps)) := by
        have h1 := HO.out
        rw [List.take_of_length_le (by have := HN.out; omega)] at h1
        exact h1
      obtain ⟨va5, vc5, rfl, -⟩ := HE.out.form
      obtain ⟨vl, hvl⟩ : ∃ q, (pfxsB ps).length = q := ⟨_, rfl⟩
      rw [hvl] at HE
      rw [hvl]
      clear HO hvl
      go_wp2_with fail
      go_ret
      exact ⟨_, rfl, HE.out, HB.out⟩
/-- bytes that lie somewhere: what a piece is -/
structure Pc8 (w : World) (a : Option Addr) (n cap : Nat) (xs : List Nat) : Prop where
  l : Lst E8 w a xs
  nil : a = none → n = 0 ∧ cap = 0
  len : xs.length = n
theorem OwnL.pc8 {N n cap : Nat} {w : World} {a : Option Addr} {xs : List Nat} (h : OwnL E8 N w (.slice a n cap) xs) : Pc8 w a n cap xs := by
  obtain ⟨h1, h2⟩ := h.lst
  refine ⟨h1, fun e => ?_, h2⟩
  obtain ⟨a', c', e', h3, h4, -⟩ := h.form
  cases e'
  exact h4 e
theorem Pc8.keep {w w' : World} {a : Option Addr} {n cap : Nat} {xs : List Nat} (h : Pc8 w a n cap xs) (hs : w.heap.size ≤ w'.heap.size) (hk : ∀ b o, a = some ⟨b, o, none⟩ → b < w.heap.size → 0 < xs.length → w'.heap[b]? = w.heap[b]?) : Pc8 w' a n cap xs := by
  refine ⟨?_, h.nil, h.len⟩
  cases xs with
  | nil => exact ⟨by simp, fun i hi => absurd hi (by simp)⟩
  | cons x xs => exact h.l.keep hs (fun b o e hb => hk b o e hb (by simp))
theorem Pc8.bel {w w' : World} {a : Option Addr} {n cap : Nat} {xs : List Nat} (h : Pc8 w a n cap xs) (hb : Below w.heap.size w w') : Pc8 w' a n cap xs := ⟨h.l.bel hb, h.nil, h.len⟩
set_option maxRecDepth 100000 in
set_option maxHeartbeats 8000000 in
theorem putPiece_any (N : Nat) (v0 : Value) (bs : List Nat) (hbig : bs.length ≤ 1000000) (a : Option Addr) (n cap : Nat) (xs : List Nat) (hxs : n ≤ 1000000) (w : World) (hN : N ≤ w.heap.size) (h : OwnL E8 N w v0 bs) (hp : Pc8 w a n cap xs) (hne : ∀ b o, a = some ⟨b, o, none⟩ → 0 < xs.length → ¬ v0.ownBlock = some b) :
    Calls Try.prog 66 #[v0, .slice a n cap] w fun e w' => ∃ v', e = .returned v' ∧ OwnL E8 N w' v' (bs ++ piece xs) ∧ Kp w v0.ownBlock w' v'.ownBlock := by
  have H : Hid (OwnL E8 N w v0 bs) := h
  have HP : Hid (Pc8 w a n cap xs) := hp
  have HNE : Hid (∀ b o, a = some ⟨b, o, none⟩ → 0 < xs.length → ¬ v0.ownBlock = some b) := hne
  clear h hp hne
  go_enter Try.func66, Try.ntmps66
  go_wp2_with fail
  refine (putk_any N v0 bs 2 n (by decide) (by omega) (by omega) w hN H.out).mono ?_
  rintro e w1 ⟨v1, rfl, ho1, hk1⟩
  have HK1 : Hid (Kp w v0.ownBlock w1 v1.ownBlock) := hk1
  have HO1 : Hid (OwnL E8 N w1 v1 (bs ++ big 2 n)) := ho1
  have HP1 : Hid (Pc8 w1 a n cap xs) := HP.out.keep hk1.str.size (fun b o e hb hx => hk1.block b hb (fun e2 => HNE.out b o e hx e2.symm))
  have hN1 : N ≤ w1.heap.size := Nat.le_trans hN hk1.str.size
  have hl1 : (bs ++ big 2 n).length + n ≤ 1099511627775 := by rw [List.length_append, big_len]; omega
  clear ho1 hk1
  go_wp2_with (at_builtin; refine list_appL E8 rfl _ _ 32 rfl rfl N v1 (bs ++ big 2 n) xs a n cap w1 hl1 rfl HO1.out rfl HP1.out.l HP1.out.nil HP1.out.len hN1 ?_)
  intro v2 w2 ho2 hg2 hat2
  have HO2 : Hid (OwnL E8 N w2 v2 (bs ++ piece xs)) := by
    unfold piece
    rw [HP.out.len]
    exact ho2.out
  have HK2 : Hid (Kp w v0.ownBlock w2 v2.ownBlock) := HK1.out.trans (Kp.grown hg2.out hat2.out)
  clear ho2 hg2 hat2 HO1 HP1 HK1
  obtain ⟨va5, vc5, rfl, -⟩ := HO2.out.form
  obtain ⟨vl, hvl⟩ : ∃ q, (bs ++ piece xs).length = q := ⟨_, rfl⟩
  rw [hvl] at HO2 HK2
  rw [hvl]
  clear hvl
  go_wp2_with fail
  go_ret
  exact ⟨_, rfl, HO2.out, HK2.out⟩
set_option maxRecDepth 100000 in
set_option maxHeartbeats 8000000 in
theorem updateOf_any (a1 : Option Addr) (n1 k1 : Nat) (x1 : List Nat) (a2 : Option Addr) (n2 k2 : Nat) (x2 : List Nat) (a3 : Option Addr) (n3 k3 : Nat) (x3 : List Nat) (h1 : n1 ≤ 300000) (h2 : n2 ≤ 300000) (h3 : n3 ≤ 1000000) (w : World) (p1 : Pc8 w a1 n1 k1 x1) (p2 : Pc8 w a2 n2 k2 x2) (p3 : Pc8 w a3 n3 k3 x3) :
    Calls Try.prog 52 #[.slice a1 n1 k1, .slice a2 n2 k2, .slice a3 n3 k3] w fun e w' => ∃ v', e = .returned v' ∧ OwnL E8 w.heap.size w' v' (updB x1 x2 x3) ∧ Below w.heap.size w w' := by
  have P1 : Hid (Pc8 w a1 n1 k1 x1) := p1
  have P2 : Hid (Pc8 w a2 n2 k2 x2) := p2
  have P3 : Hid (Pc8 w a3 n3 k3 x3) := p3
  have HA : Hid (∀ {a : Option Addr} {n k : Nat} {x : List Nat} {W : World} {v : Value} {bs : List Nat}, Pc8 w a n k x → OwnL E8 w.heap.size W v bs → ∀ b o, a = some ⟨b, o, none⟩ → 0 < x.length → ¬ v.ownBlock = some b) := by
    intro a n k x W v bs hp ho b o e hx e2
    have h1 := (ho.row.lt b e2).1
    obtain ⟨b', o', e3, h4, -⟩ := hp.l.cells 0 hx
    rw [e] at e3
    cases e3
    omega
  clear p1 p2 p3
  go_enter Try.func52, Try.ntmps52
  go_wp2_with fail
  refine (putPiece_any w.heap.size (.slice none 0 0) [] (by simp) a1 n1 k1 x1 (by omega) w (Nat.le_refl _) (OwnL.nil _ _ _) P1.out (fun b o e hx => HA.out P1.out (OwnL.nil E8 w.heap.size w) b o e hx)).mono ?_
  rintro e w1 ⟨v1, rfl, ho1, hk1⟩
  have HB1 : Hid (Below w.heap.size w w1) := hk1.below (OwnL.nil E8 w.heap.size w) (Nat.le_refl _)
  have HO1 : Hid (OwnL E8 w.heap.size w1 v1 (piece x1)) := by
    have h5 : OwnL E8 w.heap.size w1 v1 (piece x1) := by simpa using ho1
    exact h5
  have hl1 : (piece x1).length = n1 + 2 := by unfold piece; rw [List.length_append, big_len, P1.out.len]; omega
  have hl2 : (piece x2).length = n2 + 2 := by unfold piece; rw [List.length_append, big_len, P2.out.len]; omega
  clear ho1 hk1
  go_wp2_with fail
  refine (putPiece_any w.heap.size v1 (piece x1) (by omega) a2 n2 k2 x2 (by omega) w1 HB1.out.size HO1.out (P2.out.bel HB1.out) (fun b o e hx => HA.out P2.out HO1.out b o e hx)).mono ?_
  rintro e w2 ⟨v2, rfl, ho2, hk2⟩
  have HB2 : Hid (Below w.heap.size w w2) := HB1.out.trans (hk2.below HO1.out HB1.out.size)
  have HO2 : Hid (OwnL E8 w.heap.size w2 v2 (piece x1 ++ piece x2)) := ho2
  have HP3 : Hid (Pc8 w2 a3 n3 k3 x3) := P3.out.bel HB2.out
  have hl3 : (piece x1 ++ piece x2).length + n3 ≤ 1099511627775 := by rw [List.length_append]; omega
  clear ho2 hk2 HO1 HB1
  go_wp2_with (at_builtin; refine list_appL E8 rfl _ _ 32 rfl rfl w.heap.size v2 (piece x1 ++ piece x2) x3 a3 n3 k3 w2 hl3 rfl HO2.out rfl HP3.out.l HP3.out.nil HP3.out.len HB2.out.size ?_)
  intro v3 w3 ho3 hg3 hat3
  have HO3 : Hid (OwnL E8 w.heap.size w3 v3 (updB x1 x2 x3)) := by
    unfold updB
    rw [List.append_assoc]
    exact ho3.out
  have HB3 : Hid (Below w.heap.size w w3) := HB2.out.grown hg3.out HB2.out.size (fun g e => (HO2.out.row.lt g e).1)
  clear ho3 hg3 hat3 HO2 HP3
  obtain ⟨va5, vc5, rfl, -⟩ := HO3.out.form
  obtain ⟨vl, hvl⟩ : ∃ q, (updB x1 x2 x3).length = q := ⟨_, rfl⟩
  rw [hvl] at HO3
  rw [hvl]
  clear hvl hl1 hl2 hl3
  go_wp2_with fail
  go_ret
  exact ⟨_, rfl, HO3.out, HB3.out⟩
end Go.Proofs.Ytanboekdfdafmaa.Pv
