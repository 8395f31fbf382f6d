/- LsaPacketSame of two packets that are the same, and bytesSame of the same bytes: what they answer. -/
import Derived.Test.YtagfdmkgnedlbaeLsZ
import Derived.Test.YtagfdmkgnedlbaeLsL
import Derived.Laws.BytesArg
namespace Go.Proofs.Ytagfdmkgnedlbae.Ls
open Go.ChangeShapes Go.WideShapes Go.ChangeAt Go.RowKit Go.Joins Go.Proofs.Ytagfdmkgnedlbae.PM Go.Proofs.Ytagfdmkgnedlbae.Ask
set_option linter.unusedVariables false

/-- an announcement in a row is loaded -/
theorem at_run {o : Oper} (x : Operand) (ho : o.op = .load 28 x) {ρ : Operand → Value} {b f : Nat} (hx : ρ x = .pointer (some ⟨b, f, none⟩)) {y : Lsa} {lv sv : Value} {W : World} (h : LAt b f y lv sv W) :
    (execOp ρ o).run Try.prog W = .ok (.value (.agg #[.int .i64 y.kind, .int .i64 y.area, .int .i64 y.origin, .int .u32 y.pa, .int .i64 y.pn, .int .i64 y.seq, .int .i64 y.age, lv, sv, .int .i64 y.cost, .int .i64 y.tag])) W := by
  obtain ⟨c0, c1, c2, c3, c4, c5, c6, c7, c8, c9, c10⟩ := h
  unfold execOp
  rw [ho]
  simp [go_sem, hx, c0, c1, c2, c3, c4, c5, c6, c7, c8, c9, c10]
theorem quiet_at {C : World → Prop} {o : Oper} {a : Act} {K : Act → Prop} (x : Operand) (ho : o.op = .load 28 x) {b f : Nat} (hx : a.eval x = .pointer (some ⟨b, f, none⟩)) {y : Lsa} {lv sv : Value} (h : ∀ W, C W → LAt b f y lv sv W)
    (hk : K (a.put o.dst (.agg #[.int .i64 y.kind, .int .i64 y.area, .int .i64 y.origin, .int .u32 y.pa, .int .i64 y.pn, .int .i64 y.seq, .int .i64 y.age, lv, sv, .int .i64 y.cost, .int .i64 y.tag]))) : o.quiet Try.prog a C K :=
  ⟨_, fun w hw => by unfold Oper.quietAt; rw [at_run x ho hx (h w hw)]; exact ⟨rfl, rfl⟩, hk⟩
set_option maxRecDepth 100000 in
set_option maxHeartbeats 8000000 in
theorem psame_any (kind frm area seen : Int) (va : Option Addr) (cap : Nat) (vb : Option Addr) (cap2 : Nat) (xs : List Lsa) (L : Nat) (hL : xs.length = L) (w : World) (hx : LAll w va xs) (hy : LAll w vb xs) :
    Calls Try.prog 20 #[pkV kind frm area seen va L cap, pkV kind frm area seen vb L cap2] w fun e w' => e = .returned (.bool true) ∧ Below w.heap.size w w' := by
  have h9 := hx.small
  rw [hL] at h9
  have HX : Hid (LAll w va xs) := hx
  have HY : Hid (LAll w vb xs) := hy
  have HLX : Hid (xs.length = L) := hL
  clear hx hy hL
  unfold pkV
  go_enter Try.func20, Try.ntmps20
  go_upto_region 3 with fail
  obtain ⟨w0, hw0⟩ : ∃ w0, (w.alloc (Obj.cells #[.int .i64 kind, .int .i64 frm, .int .i64 area, .int .i64 seen, .slice va L cap] 36)).alloc (Obj.cells #[.int .i64 kind, .int .i64 frm, .int .i64 area, .int .i64 seen, .slice vb L cap2] 36) = w0 := ⟨_, rfl⟩
  obtain ⟨g1, g2, hs0, hb0⟩ := ha2 _ _ w0 hw0.symm
  have HPX : Hid (PBox w.heap.size kind frm area seen (.slice va L cap) w0) := by constructor <;> simp [World.cell?, g1]
  have HPY : Hid (PBox (w.heap.size + 1) kind frm area seen (.slice vb L cap2) w0) := by constructor <;> simp [World.cell?, g2]
  rw [hw0]
  have HB0 : Hid (Below w.heap.size w w0) := hb0
  obtain ⟨s, hs⟩ : ∃ s, w.heap.size = s := ⟨_, rfl⟩
  rw [hs] at HPX HPY hs0 ⊢
  have HPC : Hid (∀ W, Below w0.heap.size w0 W → W.cell? ⟨s, 4, none⟩ = some (.slice va L cap) ∧ W.cell? ⟨s + 1, 4, none⟩ = some (.slice vb L cap2)) := fun W hW => ⟨(HPX.out.blk (hW.block s (by omega))).c4, (HPY.out.blk (hW.block (s + 1) (by omega))).c4⟩
  have c4 := HPX.out.c4
  clear hw0 g1 g2 hs0 hb0 HPX HPY
  go_wp2_with fail
  clear c4
  go_loopw [44] (fun iv wr => ∃ k : Nat, k ≤ L ∧ iv = .int .i64 k ∧ Below w0.heap.size w0 wr) (fun i _ => L - (intOf i).toNat)
  case atStart => exact ⟨0, by omega, rfl, Below.refl _ _⟩
  case round =>
    obtain ⟨k, hk, rfl, hbr⟩ := hrel
    have HBR : Hid (Below w0.heap.size w0 wr) := hbr
    have HBW : Hid (Below w.heap.size w wr) := HB0.out.trans (hbr.mono HB0.out.size)
    clear hbr
    by_cases hlt : k < L
    · have hkd : k < xs.length := by rw [HLX.out]; exact hlt
      obtain ⟨b, o, la, lc, sa, sc, rfl, -, hat, hok⟩ := (HX.out.bel HBW.out).cells k hkd
      obtain ⟨b', o', lb, ld, sb, sd, rfl, -, hat', hok'⟩ := (HY.out.bel HBW.out).cells k hkd
      obtain ⟨x, hx⟩ : ∃ x, xs[k] = x := ⟨_, rfl⟩
      rw [hx] at hat hok hat' hok'
      have HSM : Hid (∀ W, Below wr.heap.size wr W → Calls Try.prog 15 #[lsaV x la lc sa sc, lsaV x lb ld sb sd] W fun e w' => e = .returned (.bool true) ∧ Below W.heap.size W w') := fun W hW => same_any x la lc sa sc lb ld sb sd W (hok.bel hW) (hok'.bel hW)
      unfold lsaV at HSM
      have HCX : Hid (∀ W, (∃ p : Regrown, W = Sort.grow (redrawn wr p.d) p.os) → LAt b (o + k * 11) x (.slice la x.links.length lc) (.slice sa x.stubs.length sc) W) := fun W hW => hat.bel (regrown_low hW)
      have HCY : Hid (∀ W, (∃ p : Regrown, W = Sort.grow (redrawn wr p.d) p.os) → LAt b' (o' + k * 11) x (.slice lb x.links.length ld) (.slice sb x.stubs.length sd) W) := fun W hW => hat'.bel (regrown_low hW)
      have HW0 : Hid (∀ d os, Below wr.heap.size wr (Sort.grow (redrawn wr d) os)) := fun d os => below_regrown wr d os
      obtain ⟨j0, j1⟩ := HPC.out wr HBR.out
      have j2 := cell_regrown j0
      have j3 := cell_regrown j1
      have hkk : (k : Int) < L := by omega
      have kk0 : (0 : Int) ≤ k := by omega
      clear hx hok hok' hat hat' j0 j1
      go_wp2_with fail
      refine wp_region_quiet_below (by kernel_rfl) (by kernel_rfl) ?_
      repeat (first
        | (go_big_quiet_want; refine quiet_at _ rfl rfl HCX.out ?_; simp only [Act.put, List.setIfInBounds_toArray, List.set_cons_zero, List.set_cons_succ]; go_big_quiet_on)
        | (go_big_quiet_want; refine quiet_at _ rfl rfl HCY.out ?_; simp only [Act.put, List.setIfInBounds_toArray, List.set_cons_zero, List.set_cons_succ]; go_big_quiet_on)
        | go_big_quiet_step (first | (go_at_call 15; exact Calls.regrown_of (HSM.out _ (HW0.out _ _)))))
      refine wpQuiet_nil ?_
      intro w8 hw8
      have HB8 : Hid (Below w0.heap.size w0 w8) := HBR.out.trans ((regrown_low hw8).mono HBR.out.size)
      clear hw8 j2 j3
      go_wp2_with fail
      exact ⟨⟨k + 1, by omega, by simp, HB8.out⟩, by simp [intOf]; omega⟩
    · obtain rfl : L = k := by omega
      go_wp2_with fail
      go_ret
      exact ⟨rfl, HBW.out⟩
theorem conv_by {va : Option Addr} {bs : List Nat} {L cap : Nat} {w : World} (h : By w va bs) (hL : bs.length = L) : (convert 37 9 (.slice va L cap)).run Try.prog w = .ok (.string (strOfNums (bs.map (fun x : Nat => (x : Int))))) w := by
  cases va with
  | none =>
    obtain rfl : bs = [] := by
      cases bs with
      | nil => rfl
      | cons a l => obtain ⟨b, o, e, _⟩ := h.cells 0 (by simp); cases e
    rw [run_convert_bytes_nil w 37 5 Try.underlying37 Try.underlying5 L cap 9 Try.underlying9]
    rfl
  | some ad =>
    obtain ⟨b, o, sp⟩ := ad
    by_cases hp : 0 < bs.length
    · obtain ⟨b1, o1, e, _⟩ := h.cells 0 hp
      cases e
      refine run_convert_bytes_arg w 37 5 Try.underlying37 Try.underlying5 b o L cap _ (by rw [List.length_map]; exact hL) (fun i hi => ?_) 9 Try.underlying9
      obtain ⟨b1, o1, e, _, hc⟩ := h.cells i (by omega)
      cases e
      rw [hc]
      simp [show i < bs.length by omega]
    · obtain rfl : bs = [] := List.length_eq_zero_iff.1 (by omega)
      obtain rfl : L = 0 := hL.symm
      rw [run_convert_bytes_string w 37 9 5 _ 0 cap Try.underlying37 Try.underlying5 Try.underlying9, run_bytesToString w _ 0 cap [] (by have := run_loadCells_list (P := Try.prog) w ⟨b, o, sp⟩ [] (fun j v hj => by simp at hj); simpa using this)]
      rfl
set_option maxRecDepth 100000 in
theorem bsame_any (va : Option Addr) (cap : Nat) (vb : Option Addr) (cap2 : Nat) (bs : List Nat) (L : Nat) (hL : bs.length = L) (w : World) (hx : By w va bs) (hy : By w vb bs) :
    Calls Try.prog 19 #[.slice va L cap, .slice vb L cap2] w fun e w' => e = .returned (.bool true) ∧ w' = w := by
  have h1 := conv_by (cap := cap) hx hL
  have h2 := conv_by (cap := cap2) hy hL
  obtain ⟨S, hS⟩ : ∃ S, strOfNums (bs.map (fun x : Nat => (x : Int))) = S := ⟨_, rfl⟩
  rw [hS] at h1 h2
  clear hx hy hS hL
  go_enter Try.func19, Try.ntmps19
  go_wp2_with fail
  go_ret
  exact ⟨rfl, rfl⟩
end Go.Proofs.Ytagfdmkgnedlbae.Ls
