/- What is lent to Judge: the links as Judge finds them, and which blocks they lie in. -/
import Derived.Test.YtgebcnnenhgkcaaMovedA
import Derived.Test.YtgebcnnenhgkcaaJudgeF
import Derived.Test.YtgebcnnenhgkcaaRefM
import Derived.Test.YtgebcnnenhgkcaaSameG
namespace Go.Proofs.Ytgebcnnenhgkcaa
open Go.RowKit Go.Shelf

theorem DeepAt.low {w : World} {base base' : Nat} {vo va : Value} {D : List Dp} {T : List LkV} (h : DeepAt w base vo va D T) (hb : base' ≤ base) : DeepAt w base' vo va D T :=
  ⟨row_lower h.out hb, row_lower h.all hb, fun d hm => row_lower (h.each d hm) hb, h.ne1, h.ne2, h.ap⟩
theorem DeepAt.rng {w : World} {base : Nat} {vo va : Value} {D : List Dp} {T : List LkV} (h : DeepAt w base vo va D T) : (∀ k, (vo.ownBlock = some k ∨ ∃ d ∈ D, k = d.g) → base ≤ k ∧ k < w.heap.size) ∧ ∀ k, va.ownBlock = some k → base ≤ k ∧ k < w.heap.size := by
  refine ⟨fun k hk => ?_, fun k hk => h.all.lt k hk⟩
  rcases hk with hk | ⟨d, hd, rfl⟩
  · exact h.out.lt k hk
  · exact (h.each d hd).lt d.g rfl
/-- The lent links, as Judge finds them. -/
theorem DeepAt.links {w : World} {base : Nat} {vo va : Value} {D : List Dp} (h : DeepAt w base vo va D [spareL, spareL, spareL]) : ∃ g c, vo = .slice (some ⟨g, 0, none⟩) (D.length + 3) c ∧ D.length + 3 ≤ c ∧ c ≤ maxLen ∧ LkAt w (some ⟨g, 0, none⟩) (D.map Dp.o) := by
  have hl : (D.map Dp.o ++ [spareL, spareL, spareL]).length = D.length + 3 := by simp
  obtain ⟨g, cap, cur, h1, h2, h3, h4, h5⟩ := lv_cells (Z := D.map Dp.o ++ [spareL, spareL, spareL]) (by rw [hl]; exact h.out) (by rw [hl]; omega)
  rw [hl] at h1
  refine ⟨g, cap, h1, ?_, ?_, ?_, ?_⟩
  · rcases h.out.2 with ⟨h', _⟩ | ⟨g', cap', cur', h', _, _, hle, _⟩
    · rw [h1] at h'; cases h'
    · rw [h1] at h'
      simp only [Value.slice.injEq, Option.some.injEq, Addr.mk.injEq] at h'
      simp at hle; omega
  · rcases h.out.2 with ⟨h', _⟩ | ⟨g', cap', cur', h', _, _, _, hle, _⟩
    · rw [h1] at h'; cases h'
    · rw [h1] at h'
      simp only [Value.slice.injEq, Option.some.injEq, Addr.mk.injEq] at h'
      omega
  · refine .inr ⟨g, 0, rfl, fun j x hj => ?_⟩
    obtain ⟨c0, c1, c2⟩ := h5 j x (by rw [List.getElem?_append_left (List.getElem?_eq_some_iff.1 hj).1]; exact hj)
    rw [Nat.zero_add, cell_of_heap h3, cell_of_heap h3, cell_of_heap h3]
    exact ⟨c0, c1, c2⟩
  · intro x hx
    obtain ⟨d, hd, rfl⟩ := List.mem_map.1 hx
    obtain ⟨g', cap', he, hle, hm, hcs', _⟩ := row_open (xs := d.l.vs ++ [77, 77, 77]) (by simpa using row_low (h.each d hd)) (by simp)
    simp only [Dp.a, Value.slice.injEq, Option.some.injEq, Addr.mk.injEq, and_true] at he
    obtain ⟨rfl, _, rfl⟩ := he
    simp only [List.length_append, List.length_cons, List.length_nil] at hle
    exact ⟨_, _, rfl, IntsAt.take (ys := [77, 77, 77]) (.inr ⟨d.g, 0, rfl, fun j hj => by rw [Nat.zero_add]; exact hcs' j hj⟩), by simp only [Dp.o]; omega⟩
/-- A lent list of numbers, as Judge finds it. -/
theorem lent_open {w : World} {base g cap : Nat} {xs : List Int} (h : w.ownsRow base 3 1 (.slice (some ⟨g, 0, none⟩) (xs.length + 3) cap) (xs.length + 3) ((xs ++ [77, 77, 77]).map I64)) :
    xs.length + 3 ≤ cap ∧ cap ≤ maxLen ∧ (∀ j, j < (xs ++ [77, 77, 77]).length → w.cell? ⟨g, j, none⟩ = some (I64 ((xs ++ [77, 77, 77])[j]?.getD 0))) ∧ (∀ j, j < xs.length → w.cell? ⟨g, j, none⟩ = some (I64 (xs[j]?.getD 0))) ∧ ∃ cur, w.heap[g]? = some (.cells cur 3 (0, 0)) ∧ xs.length + 3 ≤ cur.size := by
  obtain ⟨g', cap', he, hle, hm, hcs, _⟩ := row_open (xs := xs ++ [77, 77, 77]) (by simpa using row_low h) (by simp)
  simp only [Value.slice.injEq, Option.some.injEq, Addr.mk.injEq, and_true] at he
  obtain ⟨rfl, _, rfl⟩ := he
  simp only [List.length_append, List.length_cons, List.length_nil] at hle
  refine ⟨by omega, hm, hcs, fun j hj => ?_, ?_⟩
  · rw [hcs j (by simp; omega), List.getElem?_append_left hj]
  · rcases h.2 with ⟨h', _⟩ | ⟨g', cap', cur, h', _, h3, _, _, hs, _⟩
    · cases h'
    · simp only [Value.slice.injEq, Option.some.injEq, Addr.mk.injEq, and_true] at h'
      obtain ⟨rfl, _, rfl⟩ := h'
      exact ⟨cur, h3, by omega⟩
theorem okW_le {ws : List Int} (h : okW ws = true) : ws.length ≤ 12 := by simp [okW] at h; omega
theorem numJ_at (k : Int) (w : World) : Calls Try.prog 29 #[.int .i64 k] w fun e w' => e = .returned (.int .i64 k) ∧ w' = w := by
  go_enter Try.func29, Try.ntmps29
  go_wp2
  go_ret
  exact ⟨rfl, rfl⟩
theorem judgeG_length (ws ps : List Int) (L M : List Lk) : (judgeG ws ps L M).length ≤ 12 := by
  unfold judgeG
  by_cases h : judgeE ws ps L M = 0
  · rw [if_pos h]
    have hk : okW ws = true := by
      cases e : okW ws with
      | true => rfl
      | false => exfalso; unfold judgeE at h; rw [if_pos e] at h; cases h
    exact Nat.le_trans (judgeL_length _ _ _ _) (okW_le hk)
  · rw [if_neg h]; simp
end Go.Proofs.Ytgebcnnenhgkcaa
