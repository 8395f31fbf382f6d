/- 'append(s, make([]uint32, m)...)': a list of words grows by zeros. -/
import Derived.Laws.AppendOwn
import Derived.Laws.OwnMore
namespace Go.Proofs.Ytjhdjbhpofhiaab.Fb
open Go
set_option linter.unusedVariables false

def zc (m : Nat) : List Value := List.replicate m (.int .u32 0)
theorem zc_len (m : Nat) : (zc m).length = m := by simp [zc]
theorem zc_one (m : Nat) : ∀ u ∈ zc m, u.oneCell' = true := by intro u hu; rw [List.eq_of_mem_replicate hu]; rfl
theorem zc_is (m : Nat) : Builtin.zeroCells (Value.int .u32 0).cells m = (zc m).toArray := by
  apply Array.ext'
  apply List.ext_getElem?
  intro j
  simp [Builtin.zeroCells, zc, Value.cells, List.getElem?_replicate]
  split
  · rename_i h; rw [List.getElem?_range h]; simp [Nat.mod_one]
  · rename_i h; rw [List.getElem?_eq_none (by simp; omega)]; rfl

section
variable {P : Program} (w : World)
theorem run_zeros_room (t u ty e : TypeId) (i : TypeInfo) (ht : P.underlying t = some (.slice e)) (hu : P.underlying u = some (.int .i64)) (hi : P.info? e = some i) (hz : i.zero = some (.int .u32 0)) (hs1 : i.size = 1) (hb4 : i.bytes = 4)
    (g sLen sCap : Nat) (cur : Array Value) (hg : w.heap[g]? = some (.cells cur e (0, 0))) (m : Nat) (hm : 0 < m) (hroom : sLen + m ≤ sCap) (hfit : sLen + m ≤ cur.size) (hsm : (m : Int) ≤ 35184372088832) :
    (Builtin.append_ #[t, u] ty #[.slice (some ⟨g, 0, none⟩) sLen sCap, .int .i64 (m : Int)]).run P w =
      .ok (.slice (some ⟨g, 0, none⟩) (sLen + m) sCap) (w.setRow g (cur.toList.take sLen ++ zc m ++ cur.toList.drop (sLen + m)).toArray) := by
  have hst := run_storeCells_at P g sLen e (zc m) 0 cur w hg (by simpa [zc_len] using hfit) (zc_one m)
  simp only [Nat.add_zero, zc_len] at hst
  have hw : IntKind.i64.wrap (m : Int) = m := by rw [IntKind.wrap_i64]; omega
  have h2 : ¬ (281474976710656 < (m : Int) * 4) := by omega
  have hm0 : m ≠ 0 := by omega
  simp [Builtin.append_, run_underlying ht, run_underlying hu, sizeOf, typeInfo, zeroValue, hi, hz, hs1, hb4, asInt, asIntOf, hw, h2, hm0, hroom, Addr.add_lit, zc_is, hst]
  intro h; omega

theorem run_zeros_grow (t u ty e : TypeId) (i : TypeInfo) (ht : P.underlying t = some (.slice e)) (hu : P.underlying u = some (.int .i64)) (hi : P.info? e = some i) (hz : i.zero = some (.int .u32 0)) (hs1 : i.size = 1) (hb4 : i.bytes = 4)
    (b : Addr) (sLen sCap : Nat) (olds : List Value) (hlo : olds.length = sLen * i.size) (holds : ∀ j v, olds[j]? = some v → w.cell? (b.add j) = some v) (m : Nat) (hm : 0 < m)
    (hg : sCap < sLen + m) (h63 : ((sLen + m : Nat) : Int) ≤ 9223372036854775807) (hfit : Builtin.nextslicecap (sLen + m) sCap * i.bytes ≤ 281474976710656) (hsm : (m : Int) ≤ 35184372088832) :
    (Builtin.append_ #[t, u] ty #[.slice (some b) sLen sCap, .int .i64 (m : Int)]).run P w =
      .ok (.slice (some ⟨w.heap.size, 0, none⟩) (sLen + m) (grownCap w (sLen + m) sCap e))
        (w.drew.alloc (.cells (olds.toArray ++ (zc m).toArray ++ Builtin.zeroCells (Value.int .u32 0).cells (grownCap w (sLen + m) sCap e - (sLen + m))) e)) := by
  have hn : ¬ (sLen + m ≤ sCap) := by omega
  have h63' : ¬ (9223372036854775807 < ((sLen : Int) + (m : Int))) := by omega
  have h48' : ¬ (281474976710656 < Builtin.nextslicecap (sLen + m) sCap * 4) := by rw [hb4] at hfit; omega
  have hw : IntKind.i64.wrap (m : Int) = m := by rw [IntKind.wrap_i64]; omega
  have h2 : ¬ (281474976710656 < (m : Int) * 4) := by omega
  have hm0 : m ≠ 0 := by omega
  rw [hs1] at hlo
  have hfo := run_firstCells_some (P := P) w.drew 1 sLen b sLen sCap olds hlo (by simpa using holds)
  simp [Builtin.append_, run_underlying ht, run_underlying hu, sizeOf, typeInfo, zeroValue, hi, hz, hs1, hb4, asInt, asIntOf, hw, h2, hm0, hn, h63', h48', Question.forced, hfo, newRow, grownCap, zc_is]
  intro h; omega
theorem run_zeros_nil (t u ty e : TypeId) (i : TypeInfo) (ht : P.underlying t = some (.slice e)) (hu : P.underlying u = some (.int .i64)) (hi : P.info? e = some i) (hz : i.zero = some (.int .u32 0)) (hs1 : i.size = 1) (hb4 : i.bytes = 4)
    (m : Nat) (hm : 0 < m) (hsm : (m : Int) ≤ 35184372088832) :
    (Builtin.append_ #[t, u] ty #[.slice none 0 0, .int .i64 (m : Int)]).run P w =
      .ok (.slice (some ⟨w.heap.size, 0, none⟩) m (grownCap w m 0 e)) (w.drew.alloc (.cells ((zc m).toArray ++ Builtin.zeroCells (Value.int .u32 0).cells (grownCap w m 0 e - m)) e)) := by
  have hm0 : m ≠ 0 := by omega
  have h63' : ¬ (9223372036854775807 < (m : Int)) := by omega
  have h48' : ¬ (281474976710656 < Builtin.nextslicecap m 0 * 4) := by rw [nextslicecap_zero hm]; omega
  have hw : IntKind.i64.wrap (m : Int) = m := by rw [IntKind.wrap_i64]; omega
  have h2 : ¬ (281474976710656 < (m : Int) * 4) := by omega
  simp [Builtin.append_, run_underlying ht, run_underlying hu, sizeOf, typeInfo, zeroValue, hi, hz, hs1, hb4, asInt, asIntOf, hw, h2, hm0, h63', h48', Question.forced, run_firstCells_none, newRow, grownCap, zc_is]
  intro h; omega

/-- THE LAW: a value that owns xs, grown by m zeros. -/
theorem run_zeros_own (base : Nat) (t u ty e : TypeId) (i : TypeInfo) (ht : P.underlying t = some (.slice e)) (hu : P.underlying u = some (.int .i64)) (hi : P.info? e = some i) (hz : i.zero = some (.int .u32 0)) (hs1 : i.size = 1) (hb4 : i.bytes = 4)
    (v : Value) (n : Nat) (xs : List Value) (hown : w.ownsRow base e 1 v n xs) (m : Nat) (hm : 0 < m) (hbytes : (n + m) * 4 ≤ 140737488355328) (hbase : base ≤ w.heap.size) :
    ∃ g cap w', (Builtin.append_ #[t, u] ty #[v, .int .i64 (m : Int)]).run P w = .ok (.slice (some ⟨g, 0, none⟩) (n + m) cap) w' ∧ w'.ownsRow base e 1 (.slice (some ⟨g, 0, none⟩) (n + m) cap) (n + m) (xs ++ zc m) ∧ w.grownBy w' v.ownBlock ∧ (v.ownBlock = some g ∨ g = w.heap.size) := by
  have hsm : (m : Int) ≤ 35184372088832 := by omega
  have h63 : n + m ≤ maxLen := by unfold maxLen; omega
  have hxl : xs.length = n := by simpa using hown.1
  have hlen : (xs ++ zc m).length = (n + m) * 1 := by rw [List.length_append, hxl, zc_len, Nat.mul_one]
  have grown : ∀ (old : Nat), old < n + m → ∀ (row : Option Nat),
      (w.drew.alloc (.cells (xs.toArray ++ (zc m).toArray ++ Builtin.zeroCells (Value.int .u32 0).cells (grownCap w (n + m) old e - (n + m))) e)).ownsRow base e 1
        (.slice (some ⟨w.heap.size, 0, none⟩) (n + m) (grownCap w (n + m) old e)) (n + m) (xs ++ zc m) ∧
      w.grownBy (w.drew.alloc (.cells (xs.toArray ++ (zc m).toArray ++ Builtin.zeroCells (Value.int .u32 0).cells (grownCap w (n + m) old e - (n + m))) e)) row := by
    intro old ho row
    have hge := grownCap_ge w (n + m) old e
    have hcm : grownCap w (n + m) old e ≤ maxLen := grownCap_le_maxLen w (n + m) old e h63
    refine ⟨⟨hlen, .inr ⟨w.heap.size, _, _, rfl, hbase, heap_alloc_new w.drew _, hge, hcm, ?_, ?_⟩⟩, ⟨rfl, rfl, rfl, by simp, fun k hk _ => heap_alloc_old w.drew _ k hk⟩⟩
    · rw [zc_is]; simp [zc_len, hxl]; omega
    · simp only [Array.toList_append, List.append_assoc]
      rw [← List.append_assoc, ← hlen]
      exact List.take_left
  rcases hown.2 with ⟨rfl, rfl⟩ | ⟨g, cap, cur, rfl, hbg, hg, hnc, hcm, hcs, htake⟩
  · have hx : xs = [] := List.eq_nil_of_length_eq_zero hxl
    subst hx
    have hr := run_zeros_nil (P := P) w t u ty e i ht hu hi hz hs1 hb4 m hm hsm
    have hgr := grown 0 (by omega) (Value.ownBlock (.slice none 0 0))
    simp only [Nat.zero_add, List.nil_append, Array.empty_append] at hgr ⊢
    exact ⟨_, _, _, hr, hgr.1, hgr.2, .inr rfl⟩
  · by_cases hroom : n + m ≤ cap
    · have hr := run_zeros_room (P := P) w t u ty e i ht hu hi hz hs1 hb4 g n cap cur hg m hm hroom (by rw [hcs]; omega) hsm
      refine ⟨g, cap, _, hr, ⟨hlen, .inr ⟨g, cap, _, rfl, hbg, setRow_heap w g cur _ e _ hg, hroom, hcm, ?_, ?_⟩⟩, ⟨rfl, rfl, rfl, by simp, fun k _ hk => setRow_other w g k _ (fun e => hk (by simp [Value.ownBlock, e]))⟩, .inl rfl⟩
      · simp [zc_len, hcs]; omega
      · have htk : cur.toList.take n = xs := by simpa using htake
        rw [htk, ← hlen]
        exact List.take_left
    · have holds : ∀ j u, xs[j]? = some u → w.cell? ((⟨g, 0, none⟩ : Addr).add j) = some u := hown.cells (g := g) rfl
      have hr := run_zeros_grow (P := P) w t u ty e i ht hu hi hz hs1 hb4 ⟨g, 0, none⟩ n cap xs (by rw [hs1]; exact hown.1) holds m hm (by omega) (by unfold maxLen at h63; omega) (growslice_fits (by omega) (by rw [hb4]; exact hbytes)) hsm
      have hgr := grown cap (by omega) (Value.ownBlock (.slice (some ⟨g, 0, none⟩) n cap))
      exact ⟨_, _, _, hr, hgr.1, hgr.2, .inr rfl⟩
end
end Go.Proofs.Ytjhdjbhpofhiaab.Fb
