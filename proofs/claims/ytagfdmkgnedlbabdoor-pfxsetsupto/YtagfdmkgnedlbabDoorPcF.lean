/- widest, prefixesOf: what each answers. -/
import Derived.Test.YtagfdmkgnedlbabDoorPcD
import Derived.Test.YtagfdmkgnedlbabDoorShelf
import Derived.Laws.Bits64b
namespace Go.Proofs.YtagfdmkgnedlbabDoor.Pc
open Go.ChangeShapes Go.WideShapes Go.ChangeAt Go.RowKit Go.Joins Go.Shelf Go.Proofs.YtagfdmkgnedlbabDoor.PM Go.Proofs.YtagfdmkgnedlbabDoor.Ask Go.Proofs.YtagfdmkgnedlbabDoor.Ge
set_option linter.unusedVariables false

/-- the library's table, as it was laid -/
def Tab (w : World) : Prop := TabAt (Tryd.tz64_ren.g 1) Lib.deBruijn64tab w
theorem Tab.bel {w w' : World} (h : Tab w) (hb : Below w.heap.size w w') : Tab w' := fun j hj => by
  have h1 := h j hj
  have h2 : Tryd.tz64_ren.g 1 < w.heap.size := World.block_lt_of_cell? w _ h1
  exact (World.cell?_of_block (w := w) (hb.block _ h2)).trans h1
theorem or_u64 (a b : Nat) (ha : a < 18446744073709551616) (hb : b < 18446744073709551616) : bits .or .u64 (a : Int) (b : Int) = ((a ||| b : Nat) : Int) := by
  have hx : a ||| b < 2 ^ 64 := Nat.or_lt_two_pow (by omega) (by omega)
  have h1 : (BitVec.ofInt 64 (a : Int)).toNat = a := by
    rw [BitVec.ofInt_natCast, BitVec.toNat_ofNat]; exact Nat.mod_eq_of_lt (by omega)
  have h2 : (BitVec.ofInt 64 (b : Int)).toNat = b := by
    rw [BitVec.ofInt_natCast, BitVec.toNat_ofNat]; exact Nat.mod_eq_of_lt (by omega)
  show IntKind.u64.wrap ((BitVec.ofInt 64 (a : Int) ||| BitVec.ofInt 64 (b : Int)).toNat : Int) = _
  rw [BitVec.toNat_or, h1, h2, IntKind.wrap_u64]
  omega
set_option maxRecDepth 100000 in
set_option maxHeartbeats 4000000 in
theorem widest_any (lo hi : Nat) (h : lo < hi) (hhi : hi ≤ 4294967296) (w : World) (hT : Tab w) :
    Calls Tryd.prog 26 #[.int .u64 (lo : Int), .int .u64 (hi : Int)] w fun e w' => e = .returned (.int .i64 ((32 - down (lo : Int) (hi : Int) 32 : Nat) : Int)) ∧ w' = w := by
  obtain ⟨c, hc⟩ : ∃ c, Lib.ctz 64 (lo ||| 4294967296) = c := ⟨_, rfl⟩
  obtain ⟨L, hL⟩ : ∃ L, Lib.bitLen (hi - lo) = L := ⟨_, rfl⟩
  have hlt : lo ||| 4294967296 < 18446744073709551616 := Nat.or_lt_two_pow (n := 64) (by omega) (by omega)
  have hL33 : L ≤ 33 := by rw [← hL]; exact Lib.bitLen_le _ 33 (by omega) (by omega)
  have hL1 : 1 ≤ L := by
    obtain ⟨l1, -, -⟩ := Lib.bitLenAux_bounds 64 (hi - lo) (by omega) (by omega)
    rw [← hL]; exact l1
  have HD : Hid (((32 - down (lo : Int) (hi : Int) 32 : Nat) : Int) = min (c : Int) ((L : Int) - 1)) := by
    show _ = _
    rw [widest_down lo hi h hhi, hc, hL]
    omega
  have hc64 : c ≤ 64 := by
    rw [← hc]
    unfold Lib.ctz
    split
    · omega
    · have hb := (Lib.lowest_bit 64 (lo ||| 4294967296) (by assumption) hlt).2
      unfold Lib.ctz at hb
      rw [if_neg (by assumption)] at hb
      omega
  have H1 : Hid (∀ W, W = w → Calls Tryd.prog 31 #[.int .u64 ((lo ||| 4294967296 : Nat) : Int)] W fun e w' => e = .returned (.int .i64 (c : Int)) ∧ w' = W) := fun W hW => by
    subst hW
    have h1 := Any7.bits_TrailingZeros64 Tryd.tz64 (lo ||| 4294967296) hlt W (fun _ => hT)
    rw [hc] at h1
    exact h1
  have H2 : Hid (∀ W, Calls Tryd.prog 32 #[.int .u64 ((hi - lo : Nat) : Int)] W fun e w' => e = .returned (.int .i64 (L : Int)) ∧ w' = W) := fun W => by
    have h1 := Tryd.bits_Len64 ((hi - lo : Nat) : Int) W (by omega) (by omega)
    rw [Int.toNat_natCast, hL] at h1
    exact h1
  have hor : bits .or .u64 (lo : Int) 4294967296 = ((lo ||| 4294967296 : Nat) : Int) := or_u64 lo 4294967296 (by omega) (by omega)
  have hsub : IntKind.u64.wrap ((hi : Int) - lo) = ((hi - lo : Nat) : Int) := by rw [u64_id (by omega) (by omega)]; omega
  have hs1 : IntKind.i64.wrap ((L : Int) - 1) = (L : Int) - 1 := by rw [IntWalk.i64_in _ (by omega)]
  obtain ⟨X, hX⟩ : ∃ X : Nat, lo ||| 4294967296 = X := ⟨_, rfl⟩
  obtain ⟨Y, hY⟩ : ∃ Y : Nat, hi - lo = Y := ⟨_, rfl⟩
  rw [hX] at H1 hor
  rw [hY] at H2 hsub
  clear hc hL hX hY hlt
  go_enter Tryd.func26, Tryd.ntmps26
  go_wp2_with fail
  refine (H1.out w rfl).mono ?_
  rintro e w2 ⟨rfl, hw2⟩
  rw [hw2]
  clear hw2 w2
  go_wp2_with fail
  refine (H2.out _).mono ?_
  rintro e w2 ⟨rfl, hw2⟩
  rw [hw2]
  clear hw2 w2
  go_wp2_with fail
  go_ret
  exact ⟨ret_i64 HD.out.symm, rfl⟩
def ES : El (Int × Int) := ⟨50, 39, 2, 16, .agg #[.int .u64 0, .int .u64 0], fun p => [.int .u64 p.1, .int .u64 p.2], by decide, by decide, fun _ => rfl, fun x u hu => by simp at hu; rcases hu with rfl | rfl <;> rfl, Tryd.underlying39, by kernel_rfl, rfl⟩
theorem SpOk.rise : ∀ {l : List (Int × Int)} {lo : Int}, SpOk lo l → ∀ i (hi : i < l.length), lo < l[i].1 ∧ l[i].1 < l[i].2 ∧ ∀ j (hj : j < i), (l[j]'(by omega)).2 < l[i].1
  | s :: l, lo, h, 0, _ => ⟨h.1, h.2.1, fun j hj => by omega⟩
  | s :: l, lo, h, i + 1, hi => by
    obtain ⟨h1, h2, h3⟩ := SpOk.rise h.2.2 i (by simpa using hi)
    have h4 := h.1
    have h5 := h.2.1
    refine ⟨by simp; omega, by simpa using h2, fun j hj => ?_⟩
    cases j with
    | zero => simpa using h1
    | succ j => simpa using h3 j (by omega)
theorem cut_snoc (ss : List (Int × Int)) (i : Nat) (h : i < ss.length) : cut (ss.take (i + 1)) = cut (ss.take i) ++ split ss[i].1 ss[i].2 := by
  unfold cut
  rw [take_snoc ss i h, List.flatMap_append]
  simp
set_option maxRecDepth 100000 in
set_option maxHeartbeats 8000000 in
theorem prefixes_any (va : Option Addr) (cap : Nat) (ss : List (Int × Int)) (L : Nat) (hL : ss.length = L) (w : World) (hT : Tab w) (hl : Lst ES w va ss) (hs : SpOk (-1) ss) (h32 : ∀ s ∈ ss, s.2 ≤ 4294967296) :
    Calls Tryd.prog 17 #[.slice va L cap] w fun e w' => ∃ a n c, e = .returned (.slice a n c) ∧ OwnL E2 w.heap.size w' (.slice a n c) (cut ss) ∧ Below w.heap.size w w' := by
  have HL : Hid (Lst ES w va ss) := hl
  have HN : Hid (ss.length = L) := hL
  have HS : Hid (SpOk (-1) ss) := hs
  have H32 : Hid (∀ s ∈ ss, s.2 ≤ 4294967296) := h32
  have HT : Hid (Tab w) := hT
  have h63 := hl.small
  rw [hL] at h63
  clear hl hL hs h32 hT
  go_enter Tryd.func17, Tryd.ntmps17
  go_wp2_with fail
  go_loopw [3, 10] (fun ov iv wr => ∃ (i : Nat) (xs : List (Int × Int)), i ≤ L ∧ iv = .int .i64 (i : Int) ∧ xs = cut (ss.take i) ∧ (∀ j (hj : j < ss.length), i ≤ j → (xs.length : Int) ≤ ss[j].1) ∧ OwnL E2 w.heap.size wr ov xs ∧ Below w.heap.size w wr) (fun _ i _ => L - (intOf i).toNat)
  case atStart => exact ⟨0, [], by omega, rfl, rfl, fun j hj _ => by have := (HS.out.rise j hj).1; simp; omega, OwnL.nil _ _ _, Below.refl _ _⟩
  case round =>
    obtain ⟨i, xs, hi, rfl, hxs, hle, how, hbl⟩ := hrel
    have HXS : Hid (xs = cut (ss.take i)) := hxs
    have HLE : Hid (∀ j (hj : j < ss.length), i ≤ j → (xs.length : Int) ≤ ss[j].1) := hle
    have HO : Hid (OwnL E2 w.heap.size wr u3 xs) := how
    have HB : Hid (Below w.heap.size w wr) := hbl
    clear hxs hle how hbl
    by_cases hlt : i < L
    · have hil : i < ss.length := by rw [HN.out]; exact hlt
      obtain ⟨b, o, rfl, hbl, hc⟩ := (HL.out.bel HB.out).cells i hil
      have c0 : wr.cell? ⟨b, o + i * 2, none⟩ = some (.int .u64 ss[i].1) := hc 0 (by decide)
      have c1 : wr.cell? ⟨b, o + i * 2 + 1, none⟩ = some (.int .u64 ss[i].2) := hc 1 (by decide)
      obtain ⟨r1, r2, r3⟩ := HS.out.rise i hil
      have h32 := H32.out _ (List.getElem_mem hil)
      have hx0 := HLE.out i hil (Nat.le_refl _)
      have HCS : Hid (cut (ss.take (i + 1)) = xs ++ split ss[i].1 ss[i].2) := by show _ = _; rw [cut_snoc ss i hil, HXS.out]
      have HNX : Hid (∀ j (hj : j < ss.length), i + 1 ≤ j → ss[i].2 < ss[j].1) := fun j hj h1 => (HS.out.rise j hj).2.2 i (by omega)
      obtain ⟨⟨f, e⟩, hse⟩ : ∃ p, ss[i] = p := ⟨_, rfl⟩
      rw [hse] at c0 c1 r1 r2 h32 hx0 HCS HNX
      dsimp only at c0 c1 r1 r2 h32 hx0
      have hii : (i : Int) < L := by omega
      have ii0 : (0 : Int) ≤ i := by omega
      obtain ⟨wA, hwA⟩ : ∃ wA, wr.alloc (Obj.cells #[.int .u64 f, .int .u64 e] 50) = wA := ⟨_, rfl⟩
      have hbA : Below wr.heap.size wr wA := by rw [← hwA]; exact (Below.refl _ wr).alloc (Nat.le_refl _) _
      obtain ⟨sb, hsb⟩ : ∃ s, wr.heap.size = s := ⟨_, rfl⟩
      have HGA : Hid (wA.heap[sb]? = some (Obj.cells #[.int .u64 f, .int .u64 e] 50)) := by rw [← hwA, ← hsb]; exact World.alloc_heap_new wr _
      have hsA : wA.heap.size = sb + 1 := by rw [← hwA, ← hsb]; simp
      have hwsb : w.heap.size ≤ sb := by rw [← hsb]; exact HB.out.size
      have HOA : Hid (OwnL E2 w.heap.size wA u3 xs) := HO.out.bel hbA
      have HUA : Hid (∀ g, u3.ownBlock = some g → g < sb) := fun g e => by rw [← hsb]; exact (HO.out.row.lt g e).2
      have HBA : Hid (Below w.heap.size w wA) := HB.out.trans (hbA.mono HB.out.size)
      obtain ⟨d0, d1⟩ := cell_two HGA.out
      clear hc hbA hse r3
      go_wp2_with fail
      clear d0 d1 hwA c0 c1
      go_loopw [3, 6] (fun ov av wr2 => ∃ (x : Nat) (zs : List (Int × Int)), av = .int .u64 (x : Int) ∧ f ≤ x ∧ (x : Int) ≤ e ∧ ((zs.length : Nat) : Int) ≤ x ∧ xs ++ split f e = zs ++ split x e ∧ OwnL E2 w.heap.size wr2 ov zs ∧ (∀ g, ov.ownBlock = some g → ¬ g = sb) ∧ Below w.heap.size w wr2 ∧ wr2.heap[sb]? = some (Obj.cells #[.int .u64 f, .int .u64 e] 50)) (fun _ a _ => (e - intOf a).toNat)
      case atStart => exact ⟨f.toNat, xs, by rw [Int.toNat_of_nonneg (by omega)], by omega, by omega, by omega, by rw [Int.toNat_of_nonneg (by omega)], HOA.out, fun g e2 e3 => by have := HUA.out g e2; omega, HBA.out, HGA.out⟩
      case round =>
        obtain ⟨x, zs, rfl, hx1, hx2, hzl, hsp, how, hne, hbl2, hgx⟩ := hrel
        have HSP : Hid (xs ++ split f e = zs ++ split (x : Int) e) := hsp
        have HOZ : Hid (OwnL E2 w.heap.size wr u3 zs) := how
        have HNE : Hid (∀ g, u3.ownBlock = some g → ¬ g = sb) := hne
        have HBZ : Hid (Below w.heap.size w wr) := hbl2
        have HGZ : Hid (wr.heap[sb]? = some (Obj.cells #[.int .u64 f, .int .u64 e] 50)) := hgx
        obtain ⟨d0, d1⟩ := cell_two HGZ.out
        have hsz : sb < wr.heap.size := (Array.getElem?_eq_some_iff.1 hgx).1
        clear hsp how hne hbl2 hgx
        by_cases hxe : (x : Int) < e
        · obtain ⟨en, hen⟩ : ∃ n : Nat, (n : Int) = e := ⟨e.toNat, by rw [Int.toNat_of_nonneg (by omega)]⟩
          obtain ⟨d, hd⟩ : ∃ d, down (x : Int) e 32 = d := ⟨_, rfl⟩
          have HDD : Hid (down (x : Int) e 32 = d) := hd
          obtain ⟨hfit, hd32, -⟩ := down_spec 32 (Nat.le_refl _) (fit32 hxe)
          rw [hd] at hfit hd32
          obtain ⟨F, hF⟩ : ∃ F, 32 - d = F := ⟨_, rfl⟩
          have HW := widest_any x en (by omega) (by omega) wr (HT.out.bel HBZ.out)
          rw [hen, hd, hF] at HW
          obtain ⟨s2, hs2⟩ : ∃ s, psz (d : Int) = s := ⟨_, rfl⟩
          have HS2 : Hid (psz (d : Int) = s2) := hs2
          have hp1 := psz_pos (d : Int)
          have hp2 := hfit.2
          rw [hs2] at hp1 hp2
          have hsh : IntKind.u64.wrap (2 ^ F) = s2 := by
            rw [← hs2, ← wrap_psz (d : Int) (by omega) (by omega), ← hF, show (32 - (d : Int)).toNat = 32 - d by omega]
          have hw32 : IntKind.i64.wrap (32 - (F : Int)) = (d : Int) := by rw [IntWalk.i64_in _ (by omega)]; omega
          have hux : IntKind.u32.wrap (x : Int) = (x : Int) := u32_id (by omega) (by omega)
          have huw : IntKind.u64.wrap ((x : Int) + s2) = (x : Int) + s2 := u64_id (by omega) (by omega)
          have hF0 : (0 : Int) ≤ F := by omega
          have hF64 : (F : Int) < 64 := by omega
          clear hd hfit hF hs2
          go_wp2_with fail
          refine HW.mono ?_
          rintro e2 w2 ⟨rfl, hw2⟩
          rw [hw2]
          clear hw2 w2 HW
          obtain ⟨wC, hwC⟩ : ∃ wC, wr.alloc (Obj.cells #[.int .u32 (x : Int), .int .i64 (d : Int)] 28) = wC := ⟨_, rfl⟩
          have HWC : Hid (wr.alloc (Obj.cells (E2.enc ((x : Int), (d : Int))).toArray E2.e) = wC) := hwC
          have hbC : Below wr.heap.size wr wC := by rw [← hwC]; exact (Below.refl _ wr).alloc (Nat.le_refl _) _
          have HBC : Hid (Below w.heap.size w wC) := HBZ.out.trans (hbC.mono HBZ.out.size)
          have HOC : Hid (OwnL E2 w.heap.size wC u3 zs) := HOZ.out.bel hbC
          have HGC : Hid (wC.heap[sb]? = some (Obj.cells #[.int .u64 f, .int .u64 e] 50)) := (hbC.block sb hsz).trans HGZ.out
          have hmC : w.heap.size ≤ wC.heap.size := HBC.out.size
          have hsC : sb < wC.heap.size := Nat.lt_of_lt_of_le hsz hbC.size
          have hbig : zs.length ≤ 1099511627775 := by omega
          clear hbC d0 d1
          go_wp2_with (at_builtin; refine list_app1 E2 rfl _ _ 22 rfl rfl w.heap.size u3 zs ((x : Int), (d : Int)) hbig (w := wr) wC rfl HOC.out rfl hmC HWC.out.symm ?_)
          intro v' w' ho hg hat
          have HO2 : Hid (OwnL E2 w.heap.size w' v' (zs ++ [((x : Int), (d : Int))])) := ho.out
          have HB2 : Hid (Below w.heap.size w w') := HBC.out.trans ((Below.refl _ wC).grown hg.out hmC (fun g e => (HOC.out.row.lt g e).1))
          have HG2 : Hid (w'.heap[sb]? = some (Obj.cells #[.int .u64 f, .int .u64 e] 50)) := (hg.out.block sb hsC (fun e2 => HNE.out sb e2.symm rfl)).trans HGC.out
          have HN2 : Hid (∀ g, v'.ownBlock = some g → ¬ g = sb) := fun g e2 e3 => by
            rcases hat.out with h1 | h1
            · rw [h1] at e2; exact HNE.out g e2 e3
            · rw [h1] at e2; cases e2; omega
          clear ho hg hat hwC HWC
          go_wp2_with fail
          obtain ⟨y, hy⟩ : ∃ y : Nat, (y : Int) = (x : Int) + s2 := ⟨((x : Int) + s2).toNat, by rw [Int.toNat_of_nonneg (by omega)]⟩
          refine ⟨⟨y, zs ++ [((x : Int), (d : Int))], by rw [hy], by omega, by omega, by rw [List.length_append]; simp; omega, ?_, HO2.out, HN2.out, HB2.out, HG2.out⟩, by simp [intOf]; omega⟩
          rw [HSP.out, split_cons hxe, HDD.out, HS2.out, hy]
          simp
        · obtain rfl : (x : Int) = e := by omega
          have HE : Hid (zs = cut (ss.take (i + 1))) := by
            have h1 := HSP.out
            rw [show split (x : Int) (x : Int) = [] from split_nil (by omega), List.append_nil] at h1
            show _ = _
            rw [HCS.out, h1]
          go_wp2_with fail
          exact ⟨⟨i + 1, zs, by omega, by simp, HE.out, fun j hj h1 => by have := HNX.out j hj h1; omega, HOZ.out, HBZ.out⟩, by simp [intOf]; omega⟩
    · obtain rfl : i = L := by omega
      have HE : Hid (OwnL E2 w.heap.size wr u3 (cut ss)) := by
        have h1 := HXS.out
        rw [List.take_of_length_le (by rw [HN.out]; omega)] at h1
        rw [← h1]
        exact HO.out
      obtain ⟨a, c, hv, -⟩ := HE.out.form
      subst hv
      go_wp2_with fail
      go_ret
      exact ⟨_, _, _, rfl, HE.out, HB.out⟩
end Go.Proofs.YtagfdmkgnedlbabDoor.Pc
