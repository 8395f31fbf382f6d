/- packetSize: what it answers. -/
import Derived.Test.YtagfdmkgnedlbaeLsD
namespace Go.Proofs.Ytagfdmkgnedlbae.Ls
open Go.ChangeShapes Go.WideShapes Go.ChangeAt Go.RowKit Go.Proofs.Ytagfdmkgnedlbae.PM Go.Proofs.Ytagfdmkgnedlbae.Ask
set_option linter.unusedVariables false

/-- an announcement lies in a row, at an offset -/
structure LAt (b o : Nat) (x : Lsa) (lv sv : Value) (W : World) : Prop where
  c0 : W.cell? ⟨b, o, none⟩ = some (.int .i64 x.kind)
  c1 : W.cell? ⟨b, o + 1, none⟩ = some (.int .i64 x.area)
  c2 : W.cell? ⟨b, o + 2, none⟩ = some (.int .i64 x.origin)
  c3 : W.cell? ⟨b, o + 3, none⟩ = some (.int .u32 x.pa)
  c4 : W.cell? ⟨b, o + 4, none⟩ = some (.int .i64 x.pn)
  c5 : W.cell? ⟨b, o + 5, none⟩ = some (.int .i64 x.seq)
  c6 : W.cell? ⟨b, o + 6, none⟩ = some (.int .i64 x.age)
  c7 : W.cell? ⟨b, o + 7, none⟩ = some lv
  c8 : W.cell? ⟨b, o + 8, none⟩ = some sv
  c9 : W.cell? ⟨b, o + 9, none⟩ = some (.int .i64 x.cost)
  c10 : W.cell? ⟨b, o + 10, none⟩ = some (.int .i64 x.tag)
theorem LAt.bel {b o : Nat} {x : Lsa} {lv sv : Value} {W W' : World} (h : LAt b o x lv sv W) (hb : Below W.heap.size W W') : LAt b o x lv sv W' :=
  ⟨cell_bel h.c0 hb, cell_bel h.c1 hb, cell_bel h.c2 hb, cell_bel h.c3 hb, cell_bel h.c4 hb, cell_bel h.c5 hb, cell_bel h.c6 hb, cell_bel h.c7 hb, cell_bel h.c8 hb, cell_bel h.c9 hb, cell_bel h.c10 hb⟩
/-- a list of announcements lies at a slice -/
structure LAll (w : World) (a : Option Addr) (xs : List Lsa) : Prop where
  small : xs.length ≤ 9223372036854775807
  cells : ∀ i (h : i < xs.length), ∃ b o la lc sa sc, a = some ⟨b, o, none⟩ ∧ b < w.heap.size ∧ LAt b (o + i * 11) xs[i] (.slice la xs[i].links.length lc) (.slice sa xs[i].stubs.length sc) w ∧ LsOk w xs[i] la sa
theorem LAll.bel {w w' : World} {a : Option Addr} {xs : List Lsa} (h : LAll w a xs) (hb : Below w.heap.size w w') : LAll w' a xs :=
  ⟨h.small, fun i hi => by
    obtain ⟨b, o, la, lc, sa, sc, e, hlt, h0, h1⟩ := h.cells i hi
    exact ⟨b, o, la, lc, sa, sc, e, Nat.lt_of_lt_of_le hlt hb.size, h0.bel hb, h1.bel hb⟩⟩
/-- how many bytes announcements have -/
def lsaB (x : Lsa) : Nat := 28 + 8 * x.links.length + 7 * x.stubs.length
def bytesOf (n : Nat) (xs : List Lsa) : Nat := xs.foldl (fun n x => n + lsaB x) n
/-- a packet as a value -/
def pkV (kind frm area seen : Int) (va : Option Addr) (L cap : Nat) : Value := .agg #[.int .i64 kind, .int .i64 frm, .int .i64 area, .int .i64 seen, .slice va L cap]
theorem bytesOf_le {xs : List Lsa} (h : ∀ x ∈ xs, lsaB x ≤ 1048576) : ∀ n, n ≤ bytesOf n xs ∧ bytesOf n xs ≤ n + xs.length * 1048576 := by
  induction xs with
  | nil => intro n; simp [bytesOf]
  | cons x xs ih =>
    intro n
    have h1 := ih (fun y hy => h y (by simp [hy])) (n + lsaB x)
    have h2 := h x (by simp)
    have e : bytesOf n (x :: xs) = bytesOf (n + lsaB x) xs := rfl
    rw [e, List.length_cons]
    omega
set_option maxRecDepth 100000 in
set_option maxHeartbeats 4000000 in
theorem psize_any (kind frm area seen : Int) (va : Option Addr) (cap : Nat) (xs : List Lsa) (L : Nat) (hL : xs.length = L) (h255 : L ≤ 65536) (hsm : ∀ x ∈ xs, lsaB x ≤ 1048576) (w : World) (hx : LAll w va xs) (r : Int) (hr : ((bytesOf 20 xs : Nat) : Int) = r) :
    Calls Try.prog 48 #[pkV kind frm area seen va L cap] w fun e w' => e = .returned (.int .i64 r) ∧ Below w.heap.size w w' := by
  have HX : Hid (LAll w va xs) := hx
  have HLX : Hid (xs.length = L) := hL
  have HSM : Hid (∀ x ∈ xs, lsaB x ≤ 1048576) := hsm
  have HR : Hid (((bytesOf 20 xs : Nat) : Int) = r) := hr
  clear hx hL hr hsm
  unfold pkV
  go_enter Try.func48, Try.ntmps48
  go_wp2_with fail
  go_loopw [3, 9] (fun sv iv wr => ∃ (k s : Nat), k ≤ L ∧ iv = .int .i64 k ∧ sv = .int .i64 s ∧ s ≤ 20 + k * 1048576 ∧ ((bytesOf s (xs.drop k) : Nat) : Int) = r ∧ Below w.heap.size w wr) (fun _ i _ => L - (intOf i).toNat)
  case atStart => exact ⟨0, 20, by omega, rfl, rfl, by omega, HR.out, (Below.refl _ _).alloc (Nat.le_refl _) _⟩
  case round =>
    obtain ⟨k, s, hk, rfl, rfl, hs, hg, hbel⟩ := hrel
    have HG : Hid (((bytesOf s (xs.drop k) : Nat) : Int) = r) := hg
    have HB : Hid (Below w.heap.size w wr) := hbel
    clear hg hbel
    by_cases hlt : k < L
    · have hkd : k < xs.length := by rw [HLX.out]; exact hlt
      obtain ⟨b, o, la, lc, sa, sc, rfl, hbl, hat, hok⟩ := (HX.out.bel HB.out).cells k hkd
      have hu := HSM.out _ (List.getElem_mem hkd)
      obtain ⟨x, hx⟩ : ∃ x, xs[k] = x := ⟨_, rfl⟩
      have HG2 : Hid (((bytesOf (s + lsaB x) (xs.drop (k + 1)) : Nat) : Int) = r) := by
        have h1 := HG.out
        rw [List.drop_eq_getElem_cons hkd, hx] at h1
        exact h1
      rw [hx] at hat hu
      obtain ⟨c0, c1, c2, c3, c4, c5, c6, c7, c8, c9, c10⟩ := hat
      obtain ⟨ll, hll⟩ : ∃ l, x.links.length = l := ⟨_, rfl⟩
      obtain ⟨sl, hsl⟩ : ∃ l, x.stubs.length = l := ⟨_, rfl⟩
      have hu2 : 28 + 8 * ll + 7 * sl ≤ 1048576 := by rw [← hll, ← hsl]; exact hu
      have HLB : Hid (lsaB x = 28 + 8 * ll + 7 * sl) := by rw [← hll, ← hsl]; rfl
      rw [hll] at c7
      rw [hsl] at c8
      have hkk : (k : Int) < L := by omega
      have kk0 : (0 : Int) ≤ k := by omega
      clear hx HG hok hu hll hsl
      go_wp2_with fail
      exact ⟨⟨k + 1, s + (28 + 8 * ll + 7 * sl), by omega, by simp, by simp, by omega, by rw [← HLB.out]; exact HG2.out, HB.out.alloc HB.out.size _⟩, by simp [intOf]; omega⟩
    · obtain rfl : L = k := by omega
      have HE : Hid ((s : Int) = r) := by
        have h1 := HG.out
        rw [List.drop_of_length_le (by rw [HLX.out]; omega)] at h1
        exact h1
      clear HG
      go_wp2_with fail
      go_ret
      exact ⟨ret_i64 HE.out, HB.out⟩
end Go.Proofs.Ytagfdmkgnedlbae.Ls
