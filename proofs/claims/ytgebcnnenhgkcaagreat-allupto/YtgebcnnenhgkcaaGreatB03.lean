/- The library's sort at numbers, of twelve or fewer: they come out rising, and are the same. -/
import Derived.Deep.QuietTactic
import Derived.BigQuiet
import Derived.CellFam
import Derived.Lib.Strings
import Derived.Lib.Slices
import Derived.Lib.Small
import Derived.Lib.Walk
import Derived.Lib.BitFns
import Derived.RangeFuncNested
import Derived.RangeFuncBound
import Derived.RangeFuncCalls
import Derived.RangeFuncLeaves
import Derived.Shelf.Abstract
import Derived.Shelf.RegionOpen
import Derived.WalkKit
import Derived.OwnWalkIn
import Derived.TacticsInMore
import Derived.LoopNIn
import Derived.LoopIn
import Derived.Test.YtgebcnnenhgkcaaGreatB02
import Derived.Test.YtgebcnnenhgkcaaGreatB01
namespace Go.Proofs.YtgebcnnenhgkcaaGreat
open Go.RowKit

theorem less_at (x y : Int) (w : World) :
    Calls Tryz.prog 170 #[.int .i64 x, .int .i64 y] w fun e w' => e = .returned (.bool (decide (x < y))) ∧ w' = w := by
  go_enter Tryz.func170, Tryz.ntmps170
  go_wp2
  go_ret
  exact ⟨rfl, rfl⟩

/-- The numbers A lie in the block g, of which there are cap cells. -/
def Nums (w : World) (g cap : Nat) (A : Array Int) : Prop := ∃ cur : Array Value, w.heap[g]? = some (.cells cur 3 (0, 0)) ∧ cur.size = cap ∧ A.size ≤ cap ∧ ∀ j, j < A.size → cur[j]? = some (I64 (A[j]!))

theorem Nums.cell {w : World} {g cap : Nat} {A : Array Int} (h : Nums w g cap A) {j : Nat} (hj : j < A.size) : w.cell? ⟨g, j, none⟩ = some (I64 (A[j]!)) ∧ w.frozen? ⟨g, j, none⟩ = false := by
  obtain ⟨cur, h1, _, _, h4⟩ := h
  exact ⟨by rw [cell_of_heap h1]; exact h4 j hj, frozen_of_heap h1 j⟩
theorem Nums.set {w : World} {g cap : Nat} {A : Array Int} (h : Nums w g cap A) {j : Nat} (hj : j < A.size) (x : Int) : Nums (w.setCell ⟨g, j, none⟩ (I64 x)) g cap (A.set! j x) := by
  obtain ⟨cur, h1, h2, h3, h4⟩ := h
  refine ⟨_, heap_setCell_same w g j _ _ _ h1, by simpa using h2, by simpa using h3, fun k hk => ?_⟩
  simp only [Array.set!_eq_setIfInBounds, Array.size_setIfInBounds] at hk ⊢
  by_cases e : j = k
  · subst e
    rw [Array.getElem?_setIfInBounds_self_of_lt (by omega)]
    simp [hj]
  · rw [Array.getElem?_setIfInBounds_ne e, h4 k hk]
    simp [Array.getElem!_eq_getD, Array.getD_eq_getD_getElem?, Array.getElem?_setIfInBounds_ne e]
theorem Nums.drew {w : World} {g cap : Nat} {A : Array Int} (h : Nums w g cap A) (n : Nat) : Nums (w.drewN n) g cap A := h

def swapA (A : Array Int) (i j : Nat) : Array Int := (A.set! i (A[j]!)).set! j (A[i]!)
theorem swapA_size (A : Array Int) (i j : Nat) : (swapA A i j).size = A.size := by simp [swapA]
theorem swapA_get (A : Array Int) {i j : Nat} (hi : i < A.size) (hj : j < A.size) (k : Nat) : (swapA A i j)[k]! = if k = j then A[i]! else if k = i then A[j]! else A[k]! := by
  unfold swapA
  simp only [Array.set!_eq_setIfInBounds, Array.getElem!_eq_getD, Array.getD_eq_getD_getElem?]
  by_cases h1 : k = j
  · subst h1; simp [hj]
  · rw [if_neg h1, Array.getElem?_setIfInBounds_ne (Ne.symm h1)]
    by_cases h2 : k = i
    · subst h2; simp [hi]
    · rw [if_neg h2, Array.getElem?_setIfInBounds_ne (Ne.symm h2)]
theorem swapA_perm (A : Array Int) {i j : Nat} (hi : i < A.size) (hj : j < A.size) : (swapA A i j).toList.Perm A.toList := by
  have e : swapA A i j = A.swap i j hi hj := by
    apply Array.ext
    · simp [swapA]
    · intro k h1 h2
      have := swapA_get A hi hj k
      rw [getElem!_pos (swapA A i j) k h1] at this
      rw [this]
      rw [getElem!_pos A i hi, getElem!_pos A j hj]
      simp only [Array.getElem_swap]
      split
      · rename_i h; subst h; split <;> simp_all
      · split
        · simp_all
        · rw [getElem!_pos A k (by simpa using h2)]
  rw [e]
  exact Array.perm_iff_toList_perm.1 (Array.swap_perm hi hj)

/-- The first i and one more rise, but for what is at j. -/
def Rise (A : Array Int) (i j : Nat) : Prop := ∀ p q, p < q → q ≤ i → q ≠ j → A[p]! ≤ A[q]!
theorem Rise.stop {A : Array Int} {i j : Nat} (h : Rise A i j) (hs : j = 0 ∨ A[j - 1]! ≤ A[j]!) : ∀ p q, p < q → q ≤ i → A[p]! ≤ A[q]! := by
  intro p q h1 h2
  by_cases e : q = j
  · subst e
    rcases hs with hs | hs
    · omega
    · by_cases e2 : p = q - 1
      · subst e2; exact hs
      · exact Int.le_trans (h p (q - 1) (by omega) (by omega) (by omega)) hs
  · exact h p q h1 h2 e
theorem Rise.step {A : Array Int} {i j : Nat} (h : Rise A i j) (hj : 0 < j) (hl : A[j]! ≤ A[j - 1]!) (hs : j < A.size) : Rise (swapA A j (j - 1)) i (j - 1) := by
  intro p q h1 h2 h3
  rw [swapA_get A hs (by omega), swapA_get A hs (by omega), if_neg h3]
  by_cases e1 : q = j
  · subst e1
    rw [if_pos rfl]
    split
    · exact hl
    · rw [if_neg (by omega)]; exact h p (q - 1) (by omega) (by omega) (by omega)
  · rw [if_neg e1]
    split
    · exact h j q (by omega) h2 e1
    · split
      · exact h (j - 1) q (by omega) h2 e1
      · exact h p q h1 h2 e1

set_option maxRecDepth 100000 in
set_option maxHeartbeats 2000000 in
theorem isort_at (g cap : Nat) (A : Array Int) (w : World) (h : Nums w g cap A) (hs : A.size ≤ 12) :
    Calls Tryz.prog 164 #[.slice (some ⟨g, 0, none⟩) A.size cap, .int .i64 0, .int .i64 A.size] w fun e w' => e = .returned (.tuple #[]) ∧
      ∃ A' : Array Int, Nums w' g cap A' ∧ A'.toList.Perm A.toList ∧ (∀ p q, p < q → q < A'.size → A'[p]! ≤ A'[q]!) ∧ Chg (fun k => k = g) w w' := by
  go_enter Tryz.func164, Tryz.ntmps164
  go_wp2
  go_loopw [6] (fun vi wr => ∃ (i : Nat) (D : Array Int), vi = .int .i64 i ∧ 0 < i ∧ i ≤ A.size + 1 ∧ Hid (Nums wr g cap D ∧ D.size = A.size ∧ D.toList.Perm A.toList ∧ (∀ p q, p < q → q < i → q < A.size → D[p]! ≤ D[q]!) ∧ Chg (fun k => k = g) w wr)) (fun vi _ => A.size + 1 - (intOf vi).toNat)
  case atStart => exact ⟨1, A, by go_num, by omega, by omega, h, rfl, List.Perm.refl _, fun p q h1 h2 => by omega, Chg.refl _ _⟩
  case round =>
    obtain ⟨i, D, rfl, hi0, hi1, hD⟩ := hrel
    by_cases hlt : i < A.size
    · have hlt' : (i : Int) < (A.size : Int) := by omega
      go_wp2
      go_loopw [7] (fun vj wr2 => ∃ (j : Nat) (E : Array Int), vj = .int .i64 j ∧ j ≤ i ∧ Hid (Nums wr2 g cap E ∧ E.size = A.size ∧ E.toList.Perm A.toList ∧ Rise E i j ∧ Chg (fun k => k = g) w wr2)) (fun vj _ => (intOf vj).toNat)
      case atStart =>
        obtain ⟨d1, d2, d3, d4, d5⟩ := hD.out
        exact ⟨i, D, rfl, Nat.le_refl _, d1, d2, d3, fun p q h1 h2 h3 => d4 p q h1 (by omega) (by omega), d5⟩
      case round =>
        obtain ⟨j, E, rfl, hji, hE⟩ := hrel
        clear hD
        have hout : (j = 0 ∨ E[j - 1]! ≤ E[j]!) → ∀ q, ∃ (i' : Nat) (D' : Array Int), Value.int .i64 ((i : Int) + 1) = .int .i64 i' ∧ 0 < i' ∧ i' ≤ A.size + 1 ∧ Hid (Nums (wr.drewN q) g cap D' ∧ D'.size = A.size ∧ D'.toList.Perm A.toList ∧ (∀ p q, p < q → q < i' → q < A.size → D'[p]! ≤ D'[q]!) ∧ Chg (fun k => k = g) w (wr.drewN q)) := by
          intro hs q
          obtain ⟨e1, e2, e3, e4, e5⟩ := hE.out
          exact ⟨i + 1, E, by go_num, by omega, by omega, e1.drew q, e2, e3, fun p q h1 h2 h3 => e4.stop hs p q h1 (by omega), ⟨e5.os, e5.tape, e5.output, e5.size, e5.block⟩⟩
        have HOUT : Hid _ := hout
        clear hout
        by_cases hj0 : j = 0
        · subst hj0
          go_wp2
          go_quiet (first | (go_at_call 170; refine Calls.quiet_of_same (less_at _ _ _)))
          go_wp2
          go_roundw
          case rel => exact HOUT.out (.inl trivial) nq
          case measure => simp [intOf]; omega
        · have hj' : 0 < j := by omega
          obtain ⟨x, hx⟩ : ∃ x, E[j]! = x := ⟨_, rfl⟩
          obtain ⟨y, hy⟩ : ∃ y, E[j - 1]! = y := ⟨_, rfl⟩
          have hc : wr.cell? ⟨g, j, none⟩ = some (I64 x) ∧ wr.frozen? ⟨g, j, none⟩ = false := by rw [← hx]; exact hE.out.1.cell (by have := hE.out.2.1; omega)
          have hd : wr.cell? ⟨g, j - 1, none⟩ = some (I64 y) ∧ wr.frozen? ⟨g, j - 1, none⟩ = false := by rw [← hy]; exact hE.out.1.cell (by have := hE.out.2.1; omega)
          obtain ⟨hc1, hc2⟩ := hc
          obtain ⟨hd1, hd2⟩ := hd
          have HX : Hid (E[j]! = x) := hx
          have HY : Hid (E[j - 1]! = y) := hy
          clear hx hy
          have hjs : (j : Int) < (A.size : Int) := by omega
          have hj1 : (j : Int) - 1 = ((j - 1 : Nat) : Int) := by omega
          by_cases hxy : x < y
          · have hl : decide (x < y) = true := by simpa using hxy
            go_wp2
            go_quiet (first | (go_at_call 170; refine Calls.quiet_of_same (less_at _ _ _)))
            go_wp2
            go_region
            all_goals go_wp2
            go_roundw
            case rel =>
              obtain ⟨e1, e2, e3, e4, e5⟩ := hE.out
              refine ⟨j - 1, swapA E j (j - 1), rfl, by omega, ?_, by rw [swapA_size]; exact e2, (swapA_perm E (by omega) (by omega)).trans e3, e4.step (by omega) (by rw [HX.out, HY.out]; omega) (by omega), ?_⟩
              · have := ((e1.drew (nq + 1)).set (j := j) (by omega) y).set (j := j - 1) (by simp; omega) x
                unfold swapA
                rw [HX.out, HY.out]
                exact this
              · exact (Chg.setCell (w := wr.drewN (nq + 1)) (p := ⟨g, j, none⟩) ⟨e5.os, e5.tape, e5.output, e5.size, e5.block⟩ (.inl rfl) _).setCell (p := ⟨g, j - 1, none⟩) (.inl rfl) _
            case measure => simp [intOf]; omega
          · have hl : decide (x < y) = false := by simpa using hxy
            go_wp2
            go_quiet (first | (go_at_call 170; refine Calls.quiet_of_same (less_at _ _ _)))
            go_wp2
            go_roundw
            case rel => exact HOUT.out (.inr (by rw [HX.out, HY.out]; omega)) nq
            case measure => simp [intOf]; omega
    · go_wp2
      go_end0
      obtain ⟨d1, d2, d3, d4, d5⟩ := hD.out
      exact ⟨rfl, D, d1, d3, fun p q h1 h2 => d4 p q h1 (by omega) (by omega), d5⟩

set_option maxHeartbeats 4000000 in
set_option maxRecDepth 100000 in
theorem len64_at (x : Int) (h0 : 0 ≤ x) (h : x ≤ 12) (w : World) :
    Calls Tryz.prog 174 #[.int .u64 x] w fun e w' => (∃ k : Int, e = .returned (.int .i64 k)) ∧ w' = w := by
  go_enter Tryz.func174, Tryz.ntmps174
  go_wp2
  all_goals (go_ret; exact ⟨⟨_, rfl⟩, rfl⟩)

theorem len_at (n : Nat) (h : n ≤ 12) (w : World) :
    Calls Tryz.prog 160 #[.int .u64 n] w fun e w' => (∃ k : Int, e = .returned (.int .i64 k)) ∧ w' = w := by
  go_enter Tryz.func160, Tryz.ntmps160
  go_wp2_with fail
  refine (len64_at n (by omega) (by omega) _).mono ?_
  rintro e w' ⟨⟨k, rfl⟩, rfl⟩
  go_wp2
  go_ret
  exact ⟨⟨_, rfl⟩, rfl⟩

theorem pdq_at (g cap : Nat) (A : Array Int) (k : Int) (w : World) (h : Nums w g cap A) (hs : A.size ≤ 12) :
    Calls Tryz.prog 159 #[.slice (some ⟨g, 0, none⟩) A.size cap, .int .i64 0, .int .i64 A.size, .int .i64 k] w fun e w' => e = .returned (.tuple #[]) ∧
      ∃ A' : Array Int, Nums w' g cap A' ∧ A'.toList.Perm A.toList ∧ (∀ p q, p < q → q < A'.size → A'[p]! ≤ A'[q]!) ∧ Chg (fun k => k = g) w w' := by
  have h12 : (A.size : Int) ≤ 12 := by omega
  go_enter Tryz.func159, Tryz.ntmps159
  go_wp2
  go_loopw [1, 2] (fun a b wr => a = .int .i64 0 ∧ b = .int .i64 A.size ∧ wr = w) (fun _ _ _ => 0)
  case atStart => exact ⟨rfl, rfl, rfl⟩
  case round =>
    obtain ⟨rfl, rfl, rfl⟩ := hrel
    go_wp2_with fail
    refine (isort_at g cap A _ h hs).mono ?_
    rintro e w2 ⟨rfl, hA⟩
    go_wp2
    refine bodyPost_ret (results_none rfl _ _ _) rfl ?_
    exact ⟨rfl, hA⟩

theorem sort_at (g cap : Nat) (A : Array Int) (w : World) (h : Nums w g cap A) (hs : A.size ≤ 12) :
    Calls Tryz.prog 145 #[.slice (some ⟨g, 0, none⟩) A.size cap] w fun e w' => e = .returned (.tuple #[]) ∧
      ∃ A' : Array Int, Nums w' g cap A' ∧ A'.toList.Perm A.toList ∧ (∀ p q, p < q → q < A'.size → A'[p]! ≤ A'[q]!) ∧ Chg (fun k => k = g) w w' := by
  go_enter Tryz.func145, Tryz.ntmps145
  go_wp2_with fail
  refine (len_at A.size hs _).mono ?_
  rintro e w1 ⟨⟨k, rfl⟩, rfl⟩
  go_wp2_with fail
  refine (pdq_at g cap A k _ h hs).mono ?_
  rintro e w2 ⟨rfl, hA⟩
  go_wp2
  go_end0
  exact ⟨rfl, hA⟩
end Go.Proofs.YtgebcnnenhgkcaaGreat
/- Plain mathematics of the votes: who voted for a link, what is enough, by how few links a block is just, who is guilty. Nothing of the program is named here. -/
namespace Go.Proofs.YtgebcnnenhgkcaaGreat

def wAt (ws : List Int) (v : Int) : Int := ws[v.toNat]?.getD 0
def sumI (l : List Int) : Int := l.foldr (fun a s => a + s) 0
theorem sumI_nil : sumI [] = 0 := rfl
theorem sumI_cons (a : Int) (l : List Int) : sumI (a :: l) = a + sumI l := rfl
theorem sumI_append (a b : List Int) : sumI (a ++ b) = sumI a + sumI b := by
  induction a with
  | nil => simp [sumI_nil]
  | cons x r ih => simp only [List.cons_append, sumI_cons, ih]; omega
theorem sumI_perm {a b : List Int} (h : a.Perm b) : sumI a = sumI b := by
  induction h with
  | nil => rfl
  | cons x _ ih => simp only [sumI_cons, ih]
  | swap x y l => simp only [sumI_cons]; omega
  | trans _ _ h1 h2 => exact h1.trans h2
theorem sumI_bounds {l : List Int} {m : Int} (h : ∀ x ∈ l, 0 ≤ x ∧ x ≤ m) : 0 ≤ sumI l ∧ sumI l ≤ m * l.length := by
  induction l with
  | nil => simp [sumI_nil]
  | cons x r ih =>
    obtain ⟨h0, h1⟩ := ih (fun y hy => h y (List.mem_cons_of_mem _ hy))
    obtain ⟨k0, k1⟩ := h x (List.mem_cons_self ..)
    rw [sumI_cons, List.length_cons, Int.natCast_add, Int.mul_add]
    omega
theorem sumI_take (l : List Int) (k : Nat) (x : Int) (h : l[k]? = some x) : sumI (l.take (k + 1)) = sumI (l.take k) + x := by
  rw [List.take_add_one, h, sumI_append]; simp [sumI_cons, sumI_nil]

def wSum (ws l : List Int) : Int := sumI (l.map (wAt ws))
theorem wSum_take (ws l : List Int) (k : Nat) (x : Int) (h : l[k]? = some x) : wSum ws (l.take (k + 1)) = wSum ws (l.take k) + wAt ws x := by
  unfold wSum
  rw [List.map_take, List.map_take]
  exact sumI_take _ _ _ (by simp [h])
theorem wSum_perm (ws : List Int) {a b : List Int} (h : a.Perm b) : wSum ws a = wSum ws b := sumI_perm (h.map _)

/-- A vote for a link. -/
def Vt.on (s t : Int) (y : Vt) : Bool := y.s == s && y.t == t
theorem Vt.on_iff {s t : Int} {y : Vt} : y.on s t = true ↔ y.s = s ∧ y.t = t := by simp [Vt.on]
/-- Who voted for a link, in the order in which it was given. -/
def onL (vs : List Vt) (s t : Int) : List Int := (vs.filter (Vt.on s t)).map Vt.v
/-- The votes of one voter for a link. -/
def voterL (vs : List Vt) (s t : Int) (v : Int) : List Int := (vs.filter (fun y => y.v == v && (y.s == s && y.t == t))).map fun _ => v
/-- Who voted for a link, rising. -/
def votersL (n : Nat) (vs : List Vt) (s t : Int) : List Int := (List.range n).flatMap fun v : Nat => voterL vs s t (v : Int)

theorem votersL_succ (n : Nat) (vs : List Vt) (s t : Int) : votersL (n + 1) vs s t = votersL n vs s t ++ voterL vs s t n := by
  unfold votersL; rw [List.range_succ]; simp
theorem mem_voterL {vs : List Vt} {s t v x : Int} (h : x ∈ voterL vs s t v) : x = v := by
  unfold voterL at h; simp at h; exact h.2.symm
theorem mem_votersL {n : Nat} {vs : List Vt} {s t x : Int} (h : x ∈ votersL n vs s t) : 0 ≤ x ∧ x < n := by
  unfold votersL at h
  rw [List.mem_flatMap] at h
  obtain ⟨v, hv, hx⟩ := h
  have := mem_voterL hx
  simp at hv; omega
theorem votersL_sorted (n : Nat) (vs : List Vt) (s t : Int) : (votersL n vs s t).Pairwise (fun a b => a ≤ b) := by
  induction n with
  | zero => exact List.Pairwise.nil
  | succ n ih =>
    rw [votersL_succ, List.pairwise_append]
    refine ⟨ih, ?_, fun a ha b hb => ?_⟩
    · have : ∀ l : List Int, (∀ x ∈ l, x = (n : Int)) → l.Pairwise (fun a b => a ≤ b) := by
        intro l
        induction l with
        | nil => intro _; exact List.Pairwise.nil
        | cons x r ih2 =>
          intro h
          refine List.Pairwise.cons (fun y hy => ?_) (ih2 (fun y hy => h y (List.mem_cons_of_mem _ hy)))
          rw [h x (List.mem_cons_self ..), h y (List.mem_cons_of_mem _ hy)]; exact Int.le_refl _
      exact this _ (fun x hx => mem_voterL hx)
    · have h1 := mem_votersL ha
      have h2 := mem_voterL hb
      omega
theorem voterL_eq (vs : List Vt) (s t v : Int) : voterL vs s t v = (onL vs s t).filter (fun x => x == v) := by
  induction vs with
  | nil => rfl
  | cons y r ih =>
    unfold voterL onL at *
    by_cases h1 : y.on s t = true
    · have h1' : (y.s == s && y.t == t) = true := h1
      by_cases h2 : y.v = v
      · simp only [List.filter_cons, h1, h1', h2, if_true, BEq.rfl, Bool.and_self, List.map_cons, ih]
      · have h2' : (y.v == v) = false := by simpa using h2
        simp only [List.filter_cons, h1, h2', if_true, Bool.false_and, List.map_cons, Bool.false_eq_true, if_false]
        exact ih
    · have h1' : (y.s == s && y.t == t) = false := by simpa [Vt.on] using h1
      have h1'' : y.on s t = false := by simpa using h1
      simp only [List.filter_cons, h1', h1'', Bool.and_false, Bool.false_eq_true, if_false]
      exact ih
theorem votersL_perm {n : Nat} {vs : List Vt} (h : ∀ y ∈ vs, 0 ≤ y.v ∧ y.v < n) (s t : Int) : (votersL n vs s t).Perm (onL vs s t) := by
  have key : ∀ k : Nat, (votersL k vs s t).Perm ((onL vs s t).filter (fun x => decide (0 ≤ x ∧ x < (k : Int)))) := by
    intro k
    induction k with
    | zero =>
      have : (onL vs s t).filter (fun x => decide (0 ≤ x ∧ x < ((0 : Nat) : Int))) = [] := by
        rw [List.filter_eq_nil_iff]; intro x _; simp
      rw [this]; exact List.Perm.refl _
    | succ k ih =>
      rw [votersL_succ, voterL_eq]
      refine (List.Perm.append_right _ ih).trans ?_
      generalize onL vs s t = L
      induction L with
      | nil => exact List.Perm.nil
      | cons x r ih2 =>
        by_cases h1 : 0 ≤ x ∧ x < (k : Int)
        · have h2 : 0 ≤ x ∧ x < ((k + 1 : Nat) : Int) := by omega
          have h3 : (x == (k : Int)) = false := by simp; omega
          simp only [List.filter_cons, decide_eq_true h1, decide_eq_true h2, h3, if_true, List.cons_append]
          exact ih2.cons x
        · by_cases h4 : x = (k : Int)
          · have h2 : 0 ≤ x ∧ x < ((k + 1 : Nat) : Int) := by omega
            have h3 : (x == (k : Int)) = true := by simpa using h4
            simp only [List.filter_cons, decide_eq_false h1, decide_eq_true h2, h3, if_true]
            refine List.Perm.trans ?_ (ih2.cons x)
            simp only [Bool.false_eq_true, if_false]
            exact List.perm_middle
          · have h2 : ¬ (0 ≤ x ∧ x < ((k + 1 : Nat) : Int)) := by omega
            have h3 : (x == (k : Int)) = false := by simpa using h4
            simp only [List.filter_cons, decide_eq_false h1, decide_eq_false h2, h3, Bool.false_eq_true, if_false]
            exact ih2
  have := key n
  rw [List.filter_eq_self.2 (fun x hx => ?_)] at this
  · exact this
  · unfold onL at hx
    simp only [List.mem_map, List.mem_filter] at hx
    obtain ⟨y, ⟨hy, _⟩, rfl⟩ := hx
    simpa using h y hy
/-- Sorted, and of the same numbers: the same list. -/
theorem sorted_is {n : Nat} {vs : List Vt} (h : ∀ y ∈ vs, 0 ≤ y.v ∧ y.v < n) {s t : Int} {z : List Int} (hp : z.Perm (onL vs s t)) (hs : z.Pairwise (fun a b => a ≤ b)) : z = votersL n vs s t :=
  (hp.trans (votersL_perm h s t).symm).eq_of_pairwise (fun _ _ _ _ h1 h2 => Int.le_antisymm h1 h2) hs (votersL_sorted n vs s t)

/-- Have enough voted for a link? -/
def linkB (ws : List Int) (vs : List Vt) (s t : Int) : Bool := decide (2 * sumI ws ≤ 3 * wSum ws (onL vs s t))

/-- The votes that may be there. -/
structure OkV (n : Nat) (ps : List Int) (vs : List Vt) : Prop where
  v : ∀ y ∈ vs, 0 ≤ y.v ∧ y.v < n
  t : ∀ y ∈ vs, 0 ≤ y.t ∧ y.t.toNat < ps.length
  a : ∀ y ∈ vs, ahead ps y.s y.t = true
  nd : vs.Nodup

theorem onL_nodup {n : Nat} {ps : List Int} {vs : List Vt} (h : OkV n ps vs) (s t : Int) : (onL vs s t).Nodup := by
  have hf : (vs.filter (Vt.on s t)).Nodup := h.nd.filter _
  have hm : ∀ y ∈ vs.filter (Vt.on s t), y.s = s ∧ y.t = t := fun y hy => Vt.on_iff.1 (List.mem_filter.1 hy).2
  unfold onL
  generalize vs.filter (Vt.on s t) = l at hf hm
  induction l with
  | nil => exact List.Pairwise.nil
  | cons x r ih =>
    rw [List.nodup_cons] at hf
    rw [List.map_cons, List.nodup_cons]
    refine ⟨fun hx => ?_, ih hf.2 (fun y hy => hm y (List.mem_cons_of_mem _ hy))⟩
    obtain ⟨y, hy, he⟩ := List.mem_map.1 hx
    have h1 := hm x (List.mem_cons_self ..)
    have h2 := hm y (List.mem_cons_of_mem _ hy)
    apply hf.1
    have : x = y := by cases x; cases y; simp_all
    rw [this]; exact hy
theorem mem_onL {vs : List Vt} {s t v : Int} : v ∈ onL vs s t ↔ (⟨v, s, t⟩ : Vt) ∈ vs := by
  unfold onL
  simp only [List.mem_map, List.mem_filter]
  constructor
  · rintro ⟨y, ⟨h1, h2⟩, rfl⟩
    obtain ⟨rfl, rfl⟩ := Vt.on_iff.1 h2
    exact h1
  · intro h; exact ⟨_, ⟨h, Vt.on_iff.2 ⟨rfl, rfl⟩⟩, rfl⟩
theorem onL_length {n : Nat} {ps : List Int} {vs : List Vt} (h : OkV n ps vs) (s t : Int) : (onL vs s t).length ≤ n := by
  have h1 := (onL_nodup h s t).length_le_of_subset (l₂ := (List.range n).map (fun k : Nat => (k : Int))) (fun x hx => by
    have := h.v _ (mem_onL.1 hx)
    simp only [List.mem_map, List.mem_range]
    exact ⟨x.toNat, by dsimp only at this; omega, by dsimp only at this; omega⟩)
  simpa using h1
theorem votersL_strict {n : Nat} {ps : List Int} {vs : List Vt} (h : OkV n ps vs) (s t : Int) : (votersL n vs s t).Pairwise (fun a b => a < b) := by
  have h1 := votersL_sorted n vs s t
  have h2 : (votersL n vs s t).Nodup := (votersL_perm h.v s t).nodup_iff.2 (onL_nodup h s t)
  exact (h1.and h2).imp (fun ⟨a, b⟩ => by omega)

theorem sumI_pos {l : List Int} (h : ∀ x ∈ l, 1 ≤ x) (hl : 0 < l.length) : 0 < sumI l := by
  induction l with
  | nil => simp at hl
  | cons x r ih =>
    have h1 := h x (List.mem_cons_self ..)
    rw [sumI_cons]
    by_cases hr : 0 < r.length
    · have := ih (fun y hy => h y (List.mem_cons_of_mem _ hy)) hr; omega
    · have : r = [] := by cases r with | nil => rfl | cons => simp at hr
      subst this; rw [sumI_nil]; omega
/-- Where enough have voted somebody has. -/
theorem linkB_vote {ws : List Int} {vs : List Vt} {s t : Int} (hw : 0 < sumI ws) (h : linkB ws vs s t = true) : ∃ y ∈ vs, y.s = s ∧ y.t = t := by
  by_cases he : onL vs s t = []
  · simp [linkB, he, wSum, sumI_nil] at h; omega
  · obtain ⟨x, hx⟩ := List.exists_mem_of_ne_nil _ he
    exact ⟨_, mem_onL.1 hx, rfl, rfl⟩

/-! The tree -/
theorem up_lt {ps : List Int} (hT : Tree ps) : ∀ (n : Nat) (b : Int), 0 ≤ b → b.toNat < ps.length → b.toNat ≤ n → ∀ x ∈ up ps b, 0 ≤ x ∧ x < b := by
  intro n
  induction n with
  | zero =>
    intro b h0 hl hn x hx
    have : b = 0 := by omega
    subst this; simp [up_zero] at hx
  | succ n ih =>
    intro b h0 hl hn x hx
    by_cases hb : b = 0
    · subst hb; simp [up_zero] at hx
    · have hp := hT.2.2.2 b.toNat (by omega) hl
      rw [up_step hT (by omega) hl, List.mem_cons] at hx
      rcases hx with rfl | hx
      · omega
      · have := ih _ hp.1 (by omega) (by omega) x hx; omega
theorem mem_up_lt {ps : List Int} (hT : Tree ps) {b x : Int} (h0 : 0 ≤ b) (hl : b.toNat < ps.length) (hx : x ∈ up ps b) : 0 ≤ x ∧ x < b := up_lt hT b.toNat b h0 hl (Nat.le_refl _) x hx
theorem ahead_mem {ps : List Int} {a b : Int} : ahead ps a b = true ↔ a ∈ up ps b := by
  unfold ahead; simp
theorem up_append {ps : List Int} {p : Int} (hT : Tree ps) (hT2 : Tree (ps ++ [p])) : ∀ (n : Nat) (b : Int), 0 ≤ b → b.toNat < ps.length → b.toNat ≤ n → up (ps ++ [p]) b = up ps b := by
  intro n
  induction n with
  | zero =>
    intro b h0 hl hn
    have : b = 0 := by omega
    subst this; rfl
  | succ n ih =>
    intro b h0 hl hn
    by_cases hb : b = 0
    · subst hb; rfl
    · have hp := hT.2.2.2 b.toNat (by omega) hl
      have e : (ps ++ [p])[b.toNat]?.getD 0 = ps[b.toNat]?.getD 0 := by rw [List.getElem?_append_left hl]
      rw [up_step hT (by omega) hl, up_step hT2 (by omega) (by simp; omega), e, ih _ hp.1 (by omega) (by omega)]

/-! By how few links a block is just -/
def stAt (st : List Int) (s : Int) : Int := st[s.toNat]?.getD 0
def stepR (lk : Int → Int → Bool) (st : List Int) (b : Int) (f : Int) (s : Int) : Int := if decide (stAt st s + 1 < f) && lk s b then stAt st s + 1 else f
def stepOf (lk : Int → Int → Bool) (ps st : List Int) (b : Int) : Int := if b = 0 then 0 else (up ps b).foldl (stepR lk st b) 40
def stepsL (lk : Int → Int → Bool) (ps : List Int) : Nat → List Int
  | 0 => []
  | k + 1 => stepsL lk ps k ++ [stepOf lk ps (stepsL lk ps k) k]

theorem stepsL_length (lk : Int → Int → Bool) (ps : List Int) (k : Nat) : (stepsL lk ps k).length = k := by
  induction k with
  | zero => rfl
  | succ k ih => simp [stepsL, ih]
theorem stepsL_at {lk : Int → Int → Bool} {ps : List Int} {j k : Nat} (h : j < k) : (stepsL lk ps k)[j]? = some (stepOf lk ps (stepsL lk ps j) j) := by
  induction k with
  | zero => omega
  | succ k ih =>
    simp only [stepsL]
    by_cases hj : j < k
    · rw [List.getElem?_append_left (by rw [stepsL_length]; exact hj)]; exact ih hj
    · have : j = k := by omega
      subst this
      rw [List.getElem?_append_right (by rw [stepsL_length]; exact Nat.le_refl _)]
      simp [stepsL_length]
theorem stAt_stable {lk : Int → Int → Bool} {ps : List Int} {k n : Nat} {s : Int} (h : s.toNat < k) (hk : k ≤ n) : stAt (stepsL lk ps k) s = stAt (stepsL lk ps n) s := by
  unfold stAt
  rw [stepsL_at h, stepsL_at (Nat.lt_of_lt_of_le h hk)]
theorem foldl_congr {f g : Int → Int → Int} {l : List Int} (h : ∀ a, ∀ s ∈ l, f a s = g a s) (a : Int) : l.foldl f a = l.foldl g a := by
  induction l generalizing a with
  | nil => rfl
  | cons x r ih => rw [List.foldl_cons, List.foldl_cons, h a x (List.mem_cons_self ..)]; exact ih (fun a s hs => h a s (List.mem_cons_of_mem _ hs)) _
/-- It hangs on the blocks ahead alone. -/
theorem stepOf_congr {lk : Int → Int → Bool} {ps st st' : List Int} {b : Int} (h : ∀ s ∈ up ps b, stAt st s = stAt st' s) : stepOf lk ps st b = stepOf lk ps st' b := by
  unfold stepOf
  split
  · rfl
  · exact foldl_congr (fun a s hs => by unfold stepR; rw [h s hs]) _

theorem fold_min (c : Int → Int) (k : Int → Bool) (l : List Int) (f0 : Int) :
    let m := l.foldl (fun f s => if decide (c s + 1 < f) && k s then c s + 1 else f) f0
    m ≤ f0 ∧ (∀ s ∈ l, k s = true → m ≤ c s + 1) ∧ (m = f0 ∨ ∃ s ∈ l, k s = true ∧ m = c s + 1) := by
  induction l generalizing f0 with
  | nil => simp
  | cons x r ih =>
    simp only [List.foldl_cons]
    by_cases hx : (decide (c x + 1 < f0) && k x) = true
    · rw [if_pos hx]
      have hx' : c x + 1 < f0 ∧ k x = true := by simpa using hx
      obtain ⟨h1, h2, h3⟩ := ih (c x + 1)
      refine ⟨by omega, fun s hs hk => ?_, ?_⟩
      · rcases List.mem_cons.1 hs with rfl | hs
        · exact h1
        · exact h2 s hs hk
      · rcases h3 with h3 | ⟨s, hs, hk, he⟩
        · exact .inr ⟨x, List.mem_cons_self .., hx'.2, h3⟩
        · exact .inr ⟨s, List.mem_cons_of_mem _ hs, hk, he⟩
    · rw [if_neg hx]
      obtain ⟨h1, h2, h3⟩ := ih f0
      refine ⟨h1, fun s hs hk => ?_, ?_⟩
      · rcases List.mem_cons.1 hs with rfl | hs
        · have : ¬ c s + 1 < f0 := fun hc => hx (by simp [hc, hk])
          omega
        · exact h2 s hs hk
      · rcases h3 with h3 | ⟨s, hs, hk, he⟩
        · exact .inl h3
        · exact .inr ⟨s, List.mem_cons_of_mem _ hs, hk, he⟩

/-- What the numbers of steps are. -/
structure IsSteps (lk : Int → Int → Bool) (ps : List Int) (D : Int → Int) : Prop where
  root : D 0 = 0
  le : ∀ b, 0 ≤ b → b.toNat < ps.length → 0 ≤ D b ∧ D b ≤ 40
  min : ∀ b, 0 < b → b.toNat < ps.length → ∀ s ∈ up ps b, lk s b = true → D b ≤ D s + 1
  by' : ∀ b, 0 < b → b.toNat < ps.length → D b < 40 → ∃ s ∈ up ps b, lk s b = true ∧ D b = D s + 1
  low : ∀ b, 0 ≤ b → b.toNat < ps.length → D b < 40 → D b ≤ b

theorem stepsL_is (lk : Int → Int → Bool) {ps : List Int} (hT : Tree ps) : IsSteps lk ps (stAt (stepsL lk ps ps.length)) := by
  have hroot : stAt (stepsL lk ps ps.length) 0 = 0 := by
    unfold stAt; rw [show (0 : Int).toNat = 0 from rfl, stepsL_at hT.1]; simp [stepOf]
  have hat : ∀ b : Int, 0 < b → b.toNat < ps.length → stAt (stepsL lk ps ps.length) b = (up ps b).foldl (stepR lk (stepsL lk ps ps.length) b) 40 := by
    intro b h0 hl
    have h1 : stAt (stepsL lk ps ps.length) b = stepOf lk ps (stepsL lk ps b.toNat) b := by
      unfold stAt; rw [stepsL_at hl]; simp [Int.toNat_of_nonneg (Int.le_of_lt h0)]
    rw [h1, stepOf_congr (st' := stepsL lk ps ps.length) (fun s hs => ?_)]
    · unfold stepOf; rw [if_neg (by omega)]
    · have := mem_up_lt hT (by omega) hl hs
      exact stAt_stable (by omega) (by omega)
  have main : ∀ b : Int, 0 < b → b.toNat < ps.length → stAt (stepsL lk ps ps.length) b ≤ 40 ∧ (∀ s ∈ up ps b, lk s b = true → stAt (stepsL lk ps ps.length) b ≤ stAt (stepsL lk ps ps.length) s + 1) ∧ (stAt (stepsL lk ps ps.length) b = 40 ∨ ∃ s ∈ up ps b, lk s b = true ∧ stAt (stepsL lk ps ps.length) b = stAt (stepsL lk ps ps.length) s + 1) := by
    intro b h0 hl
    have := fold_min (stAt (stepsL lk ps ps.length)) (fun s => lk s b) (up ps b) 40
    simp only at this
    rw [hat b h0 hl]
    exact this
  have hle : ∀ (n : Nat) (b : Int), 0 ≤ b → b.toNat < ps.length → b.toNat ≤ n → 0 ≤ stAt (stepsL lk ps ps.length) b ∧ (stAt (stepsL lk ps ps.length) b < 40 → stAt (stepsL lk ps ps.length) b ≤ b) := by
    intro n
    induction n with
    | zero =>
      intro b h0 hl hn
      have : b = 0 := by omega
      subst this; rw [hroot]; omega
    | succ n ih =>
      intro b h0 hl hn
      by_cases hb : b = 0
      · subst hb; rw [hroot]; omega
      · rcases (main b (by omega) hl).2.2 with h | ⟨s, hs, _, he⟩
        · omega
        · have h1 := mem_up_lt hT h0 hl hs
          have h2 := ih s h1.1 (by omega) (by omega)
          omega
  refine ⟨hroot, fun b h0 hl => ⟨(hle b.toNat b h0 hl (Nat.le_refl _)).1, ?_⟩, fun b h0 hl => (main b h0 hl).2.1, fun b h0 hl h40 => ?_, fun b h0 hl => (hle b.toNat b h0 hl (Nat.le_refl _)).2⟩
  · by_cases hb : b = 0
    · subst hb; rw [hroot]; omega
    · exact (main b (by omega) hl).1
  · rcases (main b h0 hl).2.2 with h | h
    · omega
    · exact h

/-! Guilt -/
def ht (ps : List Int) (b : Int) : Int := (up ps b).length
/-- In which way nobody may give both votes: 0: in none. -/
def kindI (ps : List Int) (x y : Vt) : Int :=
  if x.is y = true then 0 else if ht ps x.t = ht ps y.t then 1 else if (ht ps x.s < ht ps y.s ∧ ht ps y.t < ht ps x.t) ∨ (ht ps y.s < ht ps x.s ∧ ht ps x.t < ht ps y.t) then 2 else 0
/-- A voter's guilt. -/
structure Gu where
  v : Int
  k : Int
  a : Vt
  b : Vt
/-- The first pair of a list that nobody may give. -/
def pairF (K : Vt → Vt → Int) : List Vt → Option (Int × Vt × Vt)
  | [] => none
  | x :: r => match r.find? (fun y => decide (K x y ≠ 0)) with
    | some y => some (K x y, x, y)
    | none => pairF K r
def ofV (vs : List Vt) (v : Int) : List Vt := vs.filter (fun y => y.v == v)
def guiltV (ps : List Int) (vs : List Vt) (v : Int) : Option Gu := (pairF (kindI ps) (ofV vs v)).map fun p => ⟨v, p.1, p.2.1, p.2.2⟩
def guiltL (n : Nat) (ps : List Int) (vs : List Vt) : List Gu := (List.range n).filterMap fun v : Nat => guiltV ps vs (v : Int)
theorem guiltL_succ (n : Nat) (ps : List Int) (vs : List Vt) : guiltL (n + 1) ps vs = guiltL n ps vs ++ (guiltV ps vs n).toList := by
  unfold guiltL; rw [List.range_succ, List.filterMap_append]
  cases h : guiltV ps vs n <;> simp [h]
end Go.Proofs.YtgebcnnenhgkcaaGreat
/- What the program's tree does: Count, Has, and the way up over an iterator. -/
namespace Go.Proofs.YtgebcnnenhgkcaaGreat
open Go.RowKit Go.Shelf
attribute [local go_sem] Oper.semAt_some

theorem count_at (b o : Nat) (p : Option Addr) (n c : Nat) (w : World) (hc : w.cell? ⟨b, o, none⟩ = some (.slice p n c)) :
    Calls Tryz.prog 83 #[.pointer (some ⟨b, o, none⟩)] w fun e w' => e = .returned (.int .i64 n) ∧ w' = w := by
  go_enter Tryz.func83, Tryz.ntmps83
  go_wp2
  go_ret
  exact ⟨rfl, rfl⟩

def hasB (n : Nat) (k : Int) : Bool := decide (0 ≤ k) && decide (k < n)

theorem has_at (b o : Nat) (p : Option Addr) (n c : Nat) (k : Int) (w : World) (hc : w.cell? ⟨b, o, none⟩ = some (.slice p n c)) :
    Calls Tryz.prog 86 #[.pointer (some ⟨b, o, none⟩), .int .i64 k] w fun e w' => e = .returned (.bool (hasB n k)) ∧ w' = w := by
  by_cases h0 : 0 ≤ k
  all_goals
    go_enter Tryz.func86, Tryz.ntmps86
    go_wp2
    go_ret
    exact ⟨by simp [hasB]; omega, rfl⟩

theorem hasB_true {n : Nat} {k : Int} (h0 : 0 ≤ k) (h1 : k < n) : hasB n k = true := by simp [hasB, h0, h1]

set_option maxRecDepth 100000 in
set_option maxHeartbeats 1000000 in
/-- The way up, told to a yield: each one ahead, in its order; or some of them, where a round has said no more. -/
theorem ahead1_in (n l Bb Bt n₀ b o g cap : Nat) (ps : List Int) (hT : Tree ps) (k : Int) (hk0 : 0 ≤ k) (hk1 : k.toNat < ps.length) (J Jx : List Int → World → Prop)
    (hY : ∀ pre x W, J pre W → pre.length < (up ps k).length → YieldAt Fence.wide (n - 1) Tryz.prog l #[.int .i64 x] W fun e W' =>
      (e = .returned (.bool true) ∧ J (pre ++ [x]) W' ∧ Below n₀ W W') ∨ (e = .returned (.bool false) ∧ Jx (pre ++ [x]) W'))
    (W : World) (hBb : W.cell? ⟨Bb, 0, none⟩ = some (.int .i64 k)) (hBt : W.cell? ⟨Bt, 0, none⟩ = some (.pointer (some ⟨b, o, none⟩))) (hlt : Bt < n₀) (hlb : b < n₀) (hlg : g < n₀)
    (hpv : W.cell? ⟨b, o, none⟩ = some (.slice (some ⟨g, 0, none⟩) ps.length cap))
    (hcs : ∀ j, j < ps.length → W.cell? ⟨g, j, none⟩ = some (.int .i64 (ps[j]?.getD 0))) (h0 : J [] W) :
    CallsIn Fence.wide n Tryz.prog 144 #[.func (.yield l) #[] #[], .pointer (some ⟨Bb, 0, none⟩), .pointer (some ⟨Bt, 0, none⟩)] W fun e W' => (∃ v, e = .returned v) ∧
      ((∃ ys, ys = up ps k ∧ J ys W') ∨ (∃ pre, pre <+: up ps k ∧ Jx pre W')) := by
  have hlen : ps.length ≤ 40 := hT.2.1
  have hfn : Fence.wide.fn 86 := trivial
  refine callsIn_of_wp Tryz.func144 rfl trivial ?_ rfl
  simp only [Tryz.ntmps144, List.size_toArray, List.length_cons, List.length_nil, Nat.reduceAdd, Nat.reduceSub, Array.replicate_succ, Array.replicate_zero, List.push_toArray, List.append_toArray, List.nil_append, List.cons_append]
  gi_wp2
  gi_loopw [4] (fun p wr => ∃ (pre : List Int) (x : Int), p = .int .i64 x ∧ 0 ≤ x ∧ x.toNat < ps.length ∧ up ps k = pre ++ up ps x ∧ Below n₀ W wr ∧ J pre wr)
    (fun p _ => (intOf p).toNat)
  case atStart =>
    exact ⟨[], k, rfl, hk0, hk1, rfl, Below.refl _ _, h0⟩
  case round =>
    obtain ⟨pre, x, rfl, hx0, hx1, hup, hB, hJs⟩ := hrel
    have hBt' : wr.cell? ⟨Bt, 0, none⟩ = some (.pointer (some ⟨b, o, none⟩)) := (hB.cell (p := ⟨Bt, 0, none⟩) hlt).trans hBt
    have hpv' : wr.cell? ⟨b, o, none⟩ = some (.slice (some ⟨g, 0, none⟩) ps.length cap) := (hB.cell (p := ⟨b, o, none⟩) hlb).trans hpv
    by_cases hx : x = 0
    · subst hx
      have HU : Hid (up ps k = pre ++ up ps 0) := hup
      clear hup
      gi_wp2
      go_end0
      exact ⟨⟨_, rfl⟩, .inl ⟨pre, by simp [HU.out, up_zero], hJs⟩⟩
    · have hxp : 0 < x := by omega
      obtain ⟨p, hpe⟩ : ∃ p, ps[x.toNat]?.getD 0 = p := ⟨_, rfl⟩
      have hcx : wr.cell? ⟨g, x.toNat, none⟩ = some (.int .i64 p) := by rw [← hpe]; exact (hB.cell (p := ⟨g, x.toNat, none⟩) hlg).trans (hcs _ hx1)
      have hpr := hT.2.2.2 x.toNat (by omega) hx1
      rw [hpe] at hpr
      have HU : Hid (up ps k = pre ++ up ps x) := hup
      clear hup
      have HS : Hid (up ps x = p :: up ps p) := by rw [← hpe]; exact up_step hT hxp hx1
      clear hpe
      obtain ⟨fn, tmps, assign, body, hy, hR⟩ := hY pre p wr hJs (by rw [HU.out, HS.out]; simp)
      have hxb : (x != 0) = true := by simpa using hx
      gi_wp2_with (refine ⟨fun h => (by cases h), ?_⟩; gi_at_call 86; refine (callsIn_wide.2 (has_at b o (some ⟨g, 0, none⟩) ps.length cap x _ hpv')).mono ?_; rintro e w' ⟨rfl, rfl⟩; rw [hasB_true hx0 (by omega)])
      refine ⟨fun h => (by cases h), hR.mono ?_⟩
      rintro e W3 (⟨rfl, hJ3, hk3⟩ | ⟨rfl, hJx3⟩)
      · gi_wp2
        go_roundw
        case rel => exact ⟨pre ++ [p], p, rfl, by omega, by omega, by rw [HU.out, HS.out]; simp, hB.trans hk3, hJ3⟩
        case measure => simp [intOf]; omega
      · gi_wp2
        refine bodyPost_ret (results_none rfl _ _ _) rfl ?_
        exact ⟨⟨_, rfl⟩, .inr ⟨pre ++ [p], ⟨up ps p, by rw [HU.out, HS.out]; simp⟩, hJx3⟩⟩

/-- The way up's maker: the tree's address and the block are boxed. -/
theorem ahead_makes (b o : Nat) (k : Int) (w : World) :
    Calls Tryz.prog 121 #[.pointer (some ⟨b, o, none⟩), .int .i64 k] w fun e w' =>
      e = .returned (.func (.func 144) #[] #[.pointer (some ⟨w.heap.size + 1, 0, none⟩), .pointer (some ⟨w.heap.size, 0, none⟩)]) ∧
      w' = (w.alloc (.cells #[.pointer (some ⟨b, o, none⟩)] 147)).alloc (.cells #[.int .i64 k] 3) := by
  have hmf : ∀ (fn : Fn) (first cap : Array Value) (w : World), (Instr.makeFunc fn first cap).run Tryz.prog w = .ok (.func fn first cap) w := fun _ _ _ _ => rfl
  go_enter Tryz.func121, Tryz.ntmps121
  go_wp2
  go_ret
  exact ⟨rfl, rfl⟩

/-- A tree in memory: the slice at ⟨b, o⟩ holds the parents, in the block g. -/
structure TreeAt (w : World) (b o g cap : Nat) (ps : List Int) : Prop where
  pv : w.cell? ⟨b, o, none⟩ = some (.slice (some ⟨g, 0, none⟩) ps.length cap)
  cs : ∀ j, j < ps.length → w.cell? ⟨g, j, none⟩ = some (.int .i64 (ps[j]?.getD 0))

theorem TreeAt.lt_b {w : World} {b o g cap : Nat} {ps : List Int} (h : TreeAt w b o g cap ps) : b < w.heap.size := World.block_lt_of_cell? w ⟨b, o, none⟩ h.pv
theorem TreeAt.lt_g {w : World} {b o g cap : Nat} {ps : List Int} (h : TreeAt w b o g cap ps) (hp : 0 < ps.length) : g < w.heap.size := World.block_lt_of_cell? w ⟨g, 0, none⟩ (h.cs 0 hp)
theorem TreeAt.below {w w' : World} {b o g cap B : Nat} {ps : List Int} (h : TreeAt w b o g cap ps) (hB : Below B w w') (hb : b < B) (hg : g < B) : TreeAt w' b o g cap ps :=
  ⟨(hB.cell (p := ⟨b, o, none⟩) hb).trans h.pv, fun j hj => (hB.cell (p := ⟨g, j, none⟩) hg).trans (h.cs j hj)⟩

theorem ahead_stops (n Bb Bt n₀ b o g cap : Nat) (ps : List Int) (hT : Tree ps) (k : Int) (hk0 : 0 ≤ k) (hk1 : k.toNat < ps.length) (w : World) (hBb : Bb < n₀) (hlt : Bt < n₀) (hlb : b < n₀) (hlg : g < n₀) (hn : n₀ ≤ w.heap.size)
    (hb : w.cell? ⟨Bb, 0, none⟩ = some (.int .i64 k)) (ht : w.cell? ⟨Bt, 0, none⟩ = some (.pointer (some ⟨b, o, none⟩))) (hA : TreeAt w b o g cap ps) :
    SeqStopsK Fence.wide n Tryz.prog 144 #[.pointer (some ⟨Bb, 0, none⟩), .pointer (some ⟨Bt, 0, none⟩)] (fun x : Int => #[Value.int .i64 x]) (Below n₀) (fun ys => ys = up ps k) (fun pre => pre <+: up ps k) (up ps k).length w :=
  fun l J Jx W hW _ _ hY h0 =>
    have hA' := hA.below (hW.mono hn) hlb hlg
    ahead1_in n l Bb Bt n₀ b o g cap ps hT k hk0 hk1 J Jx hY W (((hW.mono hn).cell (p := ⟨Bb, 0, none⟩) hBb).trans hb) (((hW.mono hn).cell (p := ⟨Bt, 0, none⟩) hlt).trans ht) hlt hlb hlg hA'.pv hA'.cs h0
end Go.Proofs.YtgebcnnenhgkcaaGreat
