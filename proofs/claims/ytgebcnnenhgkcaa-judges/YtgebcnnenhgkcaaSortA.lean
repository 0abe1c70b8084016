/- The library's sort at numbers, of twelve or fewer: they come out rising, and are the same. -/
import Derived.Test.YtgebcnnenhgkcaaMem2
import Derived.Test.YtgebcnnenhgkcaaIntsA
import Derived.Deep.QuietTactic
import Derived.BigQuiet
import Derived.CellFam
import Derived.Lib.Strings
import Derived.Lib.Slices
import Derived.Lib.Small
import Derived.Lib.Walk
import Derived.Lib.BitFns
namespace Go.Proofs.Ytgebcnnenhgkcaa
open Go.RowKit

theorem less_at (x y : Int) (w : World) :
    Calls Try.prog 133 #[.int .i64 x, .int .i64 y] w fun e w' => e = .returned (.bool (decide (x < y))) ∧ w' = w := by
  go_enter Try.func133, Try.ntmps133
  go_wp2
  go_ret
  exact ⟨rfl, rfl⟩

/-- The numbers A lie in the block g, of which there are cap cells. -/
def Nums (w : World) (g cap : Nat) (A : Array Int) : Prop := ∃ cur : Array Value, w.heap[g]? = some (.cells cur 3 (0, 0)) ∧ cur.size = cap ∧ A.size ≤ cap ∧ ∀ j, j < A.size → cur[j]? = some (I64 (A[j]!))

theorem Nums.cell {w : World} {g cap : Nat} {A : Array Int} (h : Nums w g cap A) {j : Nat} (hj : j < A.size) : w.cell? ⟨g, j, none⟩ = some (I64 (A[j]!)) ∧ w.frozen? ⟨g, j, none⟩ = false := by
  obtain ⟨cur, h1, _, _, h4⟩ := h
  exact ⟨by rw [cell_of_heap h1]; exact h4 j hj, frozen_of_heap h1 j⟩
theorem Nums.set {w : World} {g cap : Nat} {A : Array Int} (h : Nums w g cap A) {j : Nat} (hj : j < A.size) (x : Int) : Nums (w.setCell ⟨g, j, none⟩ (I64 x)) g cap (A.set! j x) := by
  obtain ⟨cur, h1, h2, h3, h4⟩ := h
  refine ⟨_, heap_setCell_same w g j _ _ _ h1, by simpa using h2, by simpa using h3, fun k hk => ?_⟩
  simp only [Array.set!_eq_setIfInBounds, Array.size_setIfInBounds] at hk ⊢
  by_cases e : j = k
  · subst e
    rw [Array.getElem?_setIfInBounds_self_of_lt (by omega)]
    simp [hj]
  · rw [Array.getElem?_setIfInBounds_ne e, h4 k hk]
    simp [Array.getElem!_eq_getD, Array.getD_eq_getD_getElem?, Array.getElem?_setIfInBounds_ne e]
theorem Nums.drew {w : World} {g cap : Nat} {A : Array Int} (h : Nums w g cap A) (n : Nat) : Nums (w.drewN n) g cap A := h

def swapA (A : Array Int) (i j : Nat) : Array Int := (A.set! i (A[j]!)).set! j (A[i]!)
theorem swapA_size (A : Array Int) (i j : Nat) : (swapA A i j).size = A.size := by simp [swapA]
theorem swapA_get (A : Array Int) {i j : Nat} (hi : i < A.size) (hj : j < A.size) (k : Nat) : (swapA A i j)[k]! = if k = j then A[i]! else if k = i then A[j]! else A[k]! := by
  unfold swapA
  simp only [Array.set!_eq_setIfInBounds, Array.getElem!_eq_getD, Array.getD_eq_getD_getElem?]
  by_cases h1 : k = j
  · subst h1; simp [hj]
  · rw [if_neg h1, Array.getElem?_setIfInBounds_ne (Ne.symm h1)]
    by_cases h2 : k = i
    · subst h2; simp [hi]
    · rw [if_neg h2, Array.getElem?_setIfInBounds_ne (Ne.symm h2)]
theorem swapA_perm (A : Array Int) {i j : Nat} (hi : i < A.size) (hj : j < A.size) : (swapA A i j).toList.Perm A.toList := by
  have e : swapA A i j = A.swap i j hi hj := by
    apply Array.ext
    · simp [swapA]
    · intro k h1 h2
      have := swapA_get A hi hj k
      rw [getElem!_pos (swapA A i j) k h1] at this
      rw [this]
      rw [getElem!_pos A i hi, getElem!_pos A j hj]
      simp only [Array.getElem_swap]
      split
      · rename_i h; subst h; split <;> simp_all
      · split
        · simp_all
        · rw [getElem!_pos A k (by simpa using h2)]
  rw [e]
  exact Array.perm_iff_toList_perm.1 (Array.swap_perm hi hj)

/-- The first i and one more rise, but for what is at j. -/
def Rise (A : Array Int) (i j : Nat) : Prop := ∀ p q, p < q → q ≤ i → q ≠ j → A[p]! ≤ A[q]!
theorem Rise.stop {A : Array Int} {i j : Nat} (h : Rise A i j) (hs : j = 0 ∨ A[j - 1]! ≤ A[j]!) : ∀ p q, p < q → q ≤ i → A[p]! ≤ A[q]! := by
  intro p q h1 h2
  by_cases e : q = j
  · subst e
    rcases hs with hs | hs
    · omega
    · by_cases e2 : p = q - 1
      · subst e2; exact hs
      · exact Int.le_trans (h p (q - 1) (by omega) (by omega) (by omega)) hs
  · exact h p q h1 h2 e
theorem Rise.step {A : Array Int} {i j : Nat} (h : Rise A i j) (hj : 0 < j) (hl : A[j]! ≤ A[j - 1]!) (hs : j < A.size) : Rise (swapA A j (j - 1)) i (j - 1) := by
  intro p q h1 h2 h3
  rw [swapA_get A hs (by omega), swapA_get A hs (by omega), if_neg h3]
  by_cases e1 : q = j
  · subst e1
    rw [if_pos rfl]
    split
    · exact hl
    · rw [if_neg (by omega)]; exact h p (q - 1) (by omega) (by omega) (by omega)
  · rw [if_neg e1]
    split
    · exact h j q (by omega) h2 e1
    · split
      · exact h (j - 1) q (by omega) h2 e1
      · exact h p q h1 h2 e1

set_option maxRecDepth 100000 in
set_option maxHeartbeats 2000000 in
theorem isort_at (g cap : Nat) (A : Array Int) (w : World) (h : Nums w g cap A) (hs : A.size ≤ 12) :
    Calls Try.prog 127 #[.slice (some ⟨g, 0, none⟩) A.size cap, .int .i64 0, .int .i64 A.size] w fun e w' => e = .returned (.tuple #[]) ∧
      ∃ A' : Array Int, Nums w' g cap A' ∧ A'.toList.Perm A.toList ∧ (∀ p q, p < q → q < A'.size → A'[p]! ≤ A'[q]!) ∧ Chg (fun k => k = g) w w' := by
  go_enter Try.func127, Try.ntmps127
  go_wp2
  go_loopw [6] (fun vi wr => ∃ (i : Nat) (D : Array Int), vi = .int .i64 i ∧ 0 < i ∧ i ≤ A.size + 1 ∧ Hid (Nums wr g cap D ∧ D.size = A.size ∧ D.toList.Perm A.toList ∧ (∀ p q, p < q → q < i → q < A.size → D[p]! ≤ D[q]!) ∧ Chg (fun k => k = g) w wr)) (fun vi _ => A.size + 1 - (intOf vi).toNat)
  case atStart => exact ⟨1, A, by go_num, by omega, by omega, h, rfl, List.Perm.refl _, fun p q h1 h2 => by omega, Chg.refl _ _⟩
  case round =>
    obtain ⟨i, D, rfl, hi0, hi1, hD⟩ := hrel
    by_cases hlt : i < A.size
    · have hlt' : (i : Int) < (A.size : Int) := by omega
      go_wp2
      go_loopw [7] (fun vj wr2 => ∃ (j : Nat) (E : Array Int), vj = .int .i64 j ∧ j ≤ i ∧ Hid (Nums wr2 g cap E ∧ E.size = A.size ∧ E.toList.Perm A.toList ∧ Rise E i j ∧ Chg (fun k => k = g) w wr2)) (fun vj _ => (intOf vj).toNat)
      case atStart =>
        obtain ⟨d1, d2, d3, d4, d5⟩ := hD.out
        exact ⟨i, D, rfl, Nat.le_refl _, d1, d2, d3, fun p q h1 h2 h3 => d4 p q h1 (by omega) (by omega), d5⟩
      case round =>
        obtain ⟨j, E, rfl, hji, hE⟩ := hrel
        clear hD
        have hout : (j = 0 ∨ E[j - 1]! ≤ E[j]!) → ∀ q, ∃ (i' : Nat) (D' : Array Int), Value.int .i64 ((i : Int) + 1) = .int .i64 i' ∧ 0 < i' ∧ i' ≤ A.size + 1 ∧ Hid (Nums (wr.drewN q) g cap D' ∧ D'.size = A.size ∧ D'.toList.Perm A.toList ∧ (∀ p q, p < q → q < i' → q < A.size → D'[p]! ≤ D'[q]!) ∧ Chg (fun k => k = g) w (wr.drewN q)) := by
          intro hs q
          obtain ⟨e1, e2, e3, e4, e5⟩ := hE.out
          exact ⟨i + 1, E, by go_num, by omega, by omega, e1.drew q, e2, e3, fun p q h1 h2 h3 => e4.stop hs p q h1 (by omega), ⟨e5.os, e5.tape, e5.output, e5.size, e5.block⟩⟩
        have HOUT : Hid _ := hout
        clear hout
        by_cases hj0 : j = 0
        · subst hj0
          go_wp2
          go_quiet (first | (go_at_call 133; refine Calls.quiet_of_same (less_at _ _ _)))
          go_wp2
          go_roundw
          case rel => exact HOUT.out (.inl trivial) nq
          case measure => simp [intOf]; omega
        · have hj' : 0 < j := by omega
          obtain ⟨x, hx⟩ : ∃ x, E[j]! = x := ⟨_, rfl⟩
          obtain ⟨y, hy⟩ : ∃ y, E[j - 1]! = y := ⟨_, rfl⟩
          have hc : wr.cell? ⟨g, j, none⟩ = some (I64 x) ∧ wr.frozen? ⟨g, j, none⟩ = false := by rw [← hx]; exact hE.out.1.cell (by have := hE.out.2.1; omega)
          have hd : wr.cell? ⟨g, j - 1, none⟩ = some (I64 y) ∧ wr.frozen? ⟨g, j - 1, none⟩ = false := by rw [← hy]; exact hE.out.1.cell (by have := hE.out.2.1; omega)
          obtain ⟨hc1, hc2⟩ := hc
          obtain ⟨hd1, hd2⟩ := hd
          have HX : Hid (E[j]! = x) := hx
          have HY : Hid (E[j - 1]! = y) := hy
          clear hx hy
          have hjs : (j : Int) < (A.size : Int) := by omega
          have hj1 : (j : Int) - 1 = ((j - 1 : Nat) : Int) := by omega
          by_cases hxy : x < y
          · have hl : decide (x < y) = true := by simpa using hxy
            go_wp2
            go_quiet (first | (go_at_call 133; refine Calls.quiet_of_same (less_at _ _ _)))
            go_wp2
            go_region
            all_goals go_wp2
            go_roundw
            case rel =>
              obtain ⟨e1, e2, e3, e4, e5⟩ := hE.out
              refine ⟨j - 1, swapA E j (j - 1), rfl, by omega, ?_, by rw [swapA_size]; exact e2, (swapA_perm E (by omega) (by omega)).trans e3, e4.step (by omega) (by rw [HX.out, HY.out]; omega) (by omega), ?_⟩
              · have := ((e1.drew (nq + 1)).set (j := j) (by omega) y).set (j := j - 1) (by simp; omega) x
                unfold swapA
                rw [HX.out, HY.out]
                exact this
              · exact (Chg.setCell (w := wr.drewN (nq + 1)) (p := ⟨g, j, none⟩) ⟨e5.os, e5.tape, e5.output, e5.size, e5.block⟩ (.inl rfl) _).setCell (p := ⟨g, j - 1, none⟩) (.inl rfl) _
            case measure => simp [intOf]; omega
          · have hl : decide (x < y) = false := by simpa using hxy
            go_wp2
            go_quiet (first | (go_at_call 133; refine Calls.quiet_of_same (less_at _ _ _)))
            go_wp2
            go_roundw
            case rel => exact HOUT.out (.inr (by rw [HX.out, HY.out]; omega)) nq
            case measure => simp [intOf]; omega
    · go_wp2
      go_end0
      obtain ⟨d1, d2, d3, d4, d5⟩ := hD.out
      exact ⟨rfl, D, d1, d3, fun p q h1 h2 => d4 p q h1 (by omega) (by omega), d5⟩

set_option maxHeartbeats 4000000 in
set_option maxRecDepth 100000 in
theorem len64_at (x : Int) (h0 : 0 ≤ x) (h : x ≤ 12) (w : World) :
    Calls Try.prog 137 #[.int .u64 x] w fun e w' => (∃ k : Int, e = .returned (.int .i64 k)) ∧ w' = w := by
  go_enter Try.func137, Try.ntmps137
  go_wp2
  all_goals (go_ret; exact ⟨⟨_, rfl⟩, rfl⟩)

theorem len_at (n : Nat) (h : n ≤ 12) (w : World) :
    Calls Try.prog 124 #[.int .u64 n] w fun e w' => (∃ k : Int, e = .returned (.int .i64 k)) ∧ w' = w := by
  go_enter Try.func124, Try.ntmps124
  go_wp2_with fail
  refine (len64_at n (by omega) (by omega) _).mono ?_
  rintro e w' ⟨⟨k, rfl⟩, rfl⟩
  go_wp2
  go_ret
  exact ⟨⟨_, rfl⟩, rfl⟩

theorem pdq_at (g cap : Nat) (A : Array Int) (k : Int) (w : World) (h : Nums w g cap A) (hs : A.size ≤ 12) :
    Calls Try.prog 123 #[.slice (some ⟨g, 0, none⟩) A.size cap, .int .i64 0, .int .i64 A.size, .int .i64 k] w fun e w' => e = .returned (.tuple #[]) ∧
      ∃ A' : Array Int, Nums w' g cap A' ∧ A'.toList.Perm A.toList ∧ (∀ p q, p < q → q < A'.size → A'[p]! ≤ A'[q]!) ∧ Chg (fun k => k = g) w w' := by
  have h12 : (A.size : Int) ≤ 12 := by omega
  go_enter Try.func123, Try.ntmps123
  go_wp2
  go_loopw [1, 2] (fun a b wr => a = .int .i64 0 ∧ b = .int .i64 A.size ∧ wr = w) (fun _ _ _ => 0)
  case atStart => exact ⟨rfl, rfl, rfl⟩
  case round =>
    obtain ⟨rfl, rfl, rfl⟩ := hrel
    go_wp2_with fail
    refine (isort_at g cap A _ h hs).mono ?_
    rintro e w2 ⟨rfl, hA⟩
    go_wp2
    refine bodyPost_ret (results_none rfl _ _ _) rfl ?_
    exact ⟨rfl, hA⟩

theorem sort_at (g cap : Nat) (A : Array Int) (w : World) (h : Nums w g cap A) (hs : A.size ≤ 12) :
    Calls Try.prog 111 #[.slice (some ⟨g, 0, none⟩) A.size cap] w fun e w' => e = .returned (.tuple #[]) ∧
      ∃ A' : Array Int, Nums w' g cap A' ∧ A'.toList.Perm A.toList ∧ (∀ p q, p < q → q < A'.size → A'[p]! ≤ A'[q]!) ∧ Chg (fun k => k = g) w w' := by
  go_enter Try.func111, Try.ntmps111
  go_wp2_with fail
  refine (len_at A.size hs _).mono ?_
  rintro e w1 ⟨⟨k, rfl⟩, rfl⟩
  go_wp2_with fail
  refine (pdq_at g cap A k _ h hs).mono ?_
  rintro e w2 ⟨rfl, hA⟩
  go_wp2
  go_end0
  exact ⟨rfl, hA⟩
end Go.Proofs.Ytgebcnnenhgkcaa
