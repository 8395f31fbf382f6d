/- Paths: how each router is reached. -/
import Derived.Test.YthhdpfgepjmgkaaDkE
namespace Go.Proofs.Ythhdpfgepjmgkaa.Dj
open Go.ChangeShapes Go.WideShapes Go.ChangeAt Go.RowKit Go.Joins Go.Deep Go.Proofs.Ythhdpfgepjmgkaa.Ge
set_option linter.unusedVariables false
set_option linter.unusedSimpArgs false

/-- what stands, and who is reached how -/
structure Net (es vs : List Ed) (root : Int) (f : Kw) : Prop where
  vm : ∀ e, e ∈ vs ↔ lastE es (e.f, e.l) = some e
  ok : Okv vs
  td : ∀ v d ls, f v = some (d, ls) → Told vs root v d ls
  re : ∀ v p, isP vs root p v → f v ≠ none
  bd : ∀ v d ls, f v = some (d, ls) → 0 ≤ d ∧ d ≤ far
def PaPost (w : World) (es : List Ed) (root : Int) (e : Ending) (w' : World) : Prop := ∃ vs f, Net es vs root f ∧ RhPost w f e w'
theorem RhPost.low {w w1 w' : World} {f : Kw} {e : Ending} (h : RhPost w1 f e w') (hb : Below w.heap.size w w1) : RhPost w f e w' := by
  obtain ⟨a, n, c, rs, h1, h2, h3, h4, h5, h6, h7, h8, h9⟩ := h
  exact ⟨a, n, c, rs, h1, h2, h3, h4, h5, h6, ⟨fun q hq => (h7.ck q hq).mono hb.size, h7.pw⟩, fun b o s e => ⟨(h8 b o s e).1, (h8 b o s e).2.1, Nat.le_trans hb.size (h8 b o s e).2.2.1, (h8 b o s e).2.2.2.1, (h8 b o s e).2.2.2.2.1, (h8 b o s e).2.2.2.2.2.1, (h8 b o s e).2.2.2.2.2.2.1, (h8 b o s e).2.2.2.2.2.2.2.mono hb.size⟩, hb.trans (h9.mono hb.size)⟩
set_option maxRecDepth 100000 in
set_option maxHeartbeats 16000000 in
theorem paths_any (la : Option Addr) (n lc : Nat) (es : List Ed) (root : Int) (w : World) (hn : es.length = n) (hnb : n < 99999999) (hx : Lst EE w la es) : Calls Try.prog 7 #[.slice la n lc, .int .i64 root] w (PaPost w es root) := by
  have HX : Hid (Lst EE w la es ∧ es.length = n ∧ n < 99999999) := ⟨hx, hn, hnb⟩
  clear hx hn hnb
  go_enter Try.func7, Try.ntmps7
  go_wp2_with fail
  refine (grow_any la n lc es root w HX.out.2.1 HX.out.2.2 HX.out.1).mono ?_
  rintro e w1 ⟨tb, kb, b, vs, f, k, F, rfl, ht, hk, hb1, -, -, -, hf, hkl, hvs, hov, htd, hre⟩
  have HN : Hid (Net es vs root f) := ⟨hvs, hov, htd, hre, fun v d ls h => ⟨(hf v d ls h).1, (hf v d ls h).2.1⟩⟩
  have HB1 : Hid (Below w.heap.size w w1) := hb1
  have HR : Hid (Calls Try.prog 19 #[.pointer (some ⟨tb, 0, none⟩)] w1 (RhPost w1 f)) := reaches_any b root tb kb f k F _ w1 ht hk hf (by have := HX.out; omega)
  clear ht hk hb1 hf hkl hvs hov htd hre
  go_wp2_with fail
  refine HR.out.mono ?_
  rintro e w2 hr
  have HE : Hid (PaPost w es root e w2) := ⟨vs, f, HN.out, hr.low HB1.out⟩
  obtain ⟨a, m, c, rs, rfl, -⟩ := hr
  clear HR
  go_wp2_with fail
  go_ret
  exact HE.out
end Go.Proofs.Ythhdpfgepjmgkaa.Dj
