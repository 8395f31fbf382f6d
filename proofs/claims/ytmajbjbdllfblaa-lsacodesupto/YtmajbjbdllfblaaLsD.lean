/- Order and Newer of announcements: what each answers. -/
import Derived.Test.YtmajbjbdllfblaaLsC
namespace Go.Proofs.Ytmajbjbdllfblaa.Ls
open Go.ChangeShapes Go.WideShapes Go.ChangeAt Go.RowKit Go.Proofs.Ytmajbjbdllfblaa.PM Go.Proofs.Ytmajbjbdllfblaa.Ask
set_option linter.unusedVariables false

/-- an announcement as a value -/
def lsaV (x : Lsa) (la : Option Addr) (lc : Nat) (sa : Option Addr) (sc : Nat) : Value :=
  .agg #[.int .i64 x.kind, .int .i64 x.area, .int .i64 x.origin, .int .u32 x.pa, .int .i64 x.pn, .int .i64 x.seq, .int .i64 x.age, .slice la x.links.length lc, .slice sa x.stubs.length sc, .int .i64 x.cost, .int .i64 x.tag]
/-- an announcement's lists lie in memory -/
structure LsOk (w : World) (x : Lsa) (la sa : Option Addr) : Prop where
  lk : L3 .i64 w la x.links
  st : L3 .u32 w sa x.stubs
  p32 : In32 x.pa
  s32 : ∀ d ∈ x.stubs, In32 d.1
theorem LsOk.bel {w w' : World} {x : Lsa} {la sa : Option Addr} (h : LsOk w x la sa) (hb : Below w.heap.size w w') : LsOk w' x la sa := ⟨h.lk.bel hb, h.st.bel hb, h.p32, h.s32⟩
/-- its own box -/
structure LBox (s : Nat) (kind area origin pa pn seq age : Int) (lv sv : Value) (cost tag : Int) (W : World) : Prop where
  c0 : W.cell? ⟨s, 0, none⟩ = some (.int .i64 kind)
  c1 : W.cell? ⟨s, 1, none⟩ = some (.int .i64 area)
  c2 : W.cell? ⟨s, 2, none⟩ = some (.int .i64 origin)
  c3 : W.cell? ⟨s, 3, none⟩ = some (.int .u32 pa)
  c4 : W.cell? ⟨s, 4, none⟩ = some (.int .i64 pn)
  c5 : W.cell? ⟨s, 5, none⟩ = some (.int .i64 seq)
  c6 : W.cell? ⟨s, 6, none⟩ = some (.int .i64 age)
  c7 : W.cell? ⟨s, 7, none⟩ = some lv
  c8 : W.cell? ⟨s, 8, none⟩ = some sv
  c9 : W.cell? ⟨s, 9, none⟩ = some (.int .i64 cost)
  c10 : W.cell? ⟨s, 10, none⟩ = some (.int .i64 tag)
theorem LBox.bel {s : Nat} {kind area origin pa pn seq age : Int} {lv sv : Value} {cost tag : Int} {W W' : World} (h : LBox s kind area origin pa pn seq age lv sv cost tag W) (hb : Below W.heap.size W W') : LBox s kind area origin pa pn seq age lv sv cost tag W' :=
  ⟨cell_bel h.c0 hb, cell_bel h.c1 hb, cell_bel h.c2 hb, cell_bel h.c3 hb, cell_bel h.c4 hb, cell_bel h.c5 hb, cell_bel h.c6 hb, cell_bel h.c7 hb, cell_bel h.c8 hb, cell_bel h.c9 hb, cell_bel h.c10 hb⟩

end Go.Proofs.Ytmajbjbdllfblaa.Ls
