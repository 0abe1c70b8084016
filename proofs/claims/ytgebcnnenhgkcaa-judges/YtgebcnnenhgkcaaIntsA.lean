/- The statements' own small functions over lists of numbers; the weights' tests. -/
import Derived.Test.YtgebcnnenhgkcaaMem2
import Derived.Deep.QuietTactic
import Derived.BigQuiet
import Derived.WalkSpells
namespace Go.Proofs.Ytgebcnnenhgkcaa
open Go.RowKit

/-- The numbers xs lie in memory from the address p on. -/
def IntsAt (w : World) (p : Option Addr) (xs : List Int) : Prop :=
  xs = [] ∨ ∃ g o, p = some ⟨g, o, none⟩ ∧ ∀ j, j < xs.length → w.cell? ⟨g, o + j, none⟩ = some (I64 (xs[j]?.getD 0))

theorem IntsAt.below {w w' : World} {p : Option Addr} {xs : List Int} (h : IntsAt w p xs) (hB : Below w.heap.size w w') : IntsAt w' p xs := by
  rcases h with h | ⟨g, o, h1, h2⟩
  · exact .inl h
  · exact .inr ⟨g, o, h1, fun j hj => (hB.cell (p := ⟨g, o + j, none⟩) (World.block_lt_of_cell? w _ (h2 j hj))).trans (h2 j hj)⟩

theorem IntsAt.chg {S : Nat → Prop} {w w' : World} {p : Option Addr} {xs : List Int} (h : IntsAt w p xs) (hc : Chg S w w') (hd : ∀ k, Value.ownBlock (.slice p 0 0) = some k → ¬ S k) : IntsAt w' p xs := by
  rcases h with h | ⟨g, o, rfl, h2⟩
  · exact .inl h
  · exact .inr ⟨g, o, rfl, fun j hj => hc.cell (h2 j hj) (hd g rfl)⟩

theorem IntsAt.take {w : World} {p : Option Addr} {xs ys : List Int} (h : IntsAt w p (xs ++ ys)) : IntsAt w p xs := by
  rcases h with h | ⟨g, o, h1, h2⟩
  · exact .inl (List.append_eq_nil_iff.1 h).1
  · refine .inr ⟨g, o, h1, fun j hj => ?_⟩
    rw [h2 j (by simp; omega), List.getElem?_append_left hj]

theorem drewN2 (w : World) (n m : Nat) : (w.drewN n).drewN m = w.drewN (n + m) := by simp [World.drewN, Nat.add_assoc]

set_option maxHeartbeats 1000000 in
theorem sameInts_at (p q : Option Addr) (c d : Nat) (xs ys : List Int) (w : World) (hx : IntsAt w p xs) (hy : IntsAt w q ys) (hl : xs.length ≤ maxLen) :
    Calls Try.prog 46 #[.slice p xs.length c, .slice q ys.length d] w fun e w' => e = .returned (.bool (decide (xs = ys))) ∧ ∃ n, w' = w.drewN n := by
  unfold maxLen at hl
  by_cases hlen : xs.length = ys.length
  · have hle : (xs.length : Int) ≤ 9223372036854775807 := by omega
    have hnb : ((xs.length : Int) != (ys.length : Int)) = false := by simp; omega
    have HL : Hid (xs.length = ys.length) := hlen
    clear hlen
    go_enter Try.func46, Try.ntmps46
    go_wp2
    go_loopw [5] (fun i wr => ∃ k : Nat, k ≤ xs.length ∧ i = .int .i64 k ∧ Hid (xs.take k = ys.take k) ∧ ∃ n, wr = w.drewN n)
      (fun i _ => xs.length - (intOf i).toNat)
    case atStart => exact ⟨0, by omega, rfl, by simp [Hid], 0, rfl⟩
    case round =>
      obtain ⟨k, hk, rfl, heq, n, rfl⟩ := hrel
      by_cases hlt : k < xs.length
      · have hlt2 : k < ys.length := by have := HL.out; omega
        rcases hx with rfl | ⟨g, o, rfl, hcx⟩
        · simp at hlt
        rcases hy with rfl | ⟨g2, o2, rfl, hcy⟩
        · simp at hlt2
        obtain ⟨a, ha⟩ : ∃ a, xs[k]?.getD 0 = a := ⟨_, rfl⟩
        obtain ⟨b, hb⟩ : ∃ b, ys[k]?.getD 0 = b := ⟨_, rfl⟩
        have h1 : w.cell? ⟨g, o + k, none⟩ = some (I64 a) := by rw [← ha]; exact hcx k hlt
        have h2 : w.cell? ⟨g2, o2 + k, none⟩ = some (I64 b) := by rw [← hb]; exact hcy k hlt2
        have HA : Hid (xs[k]? = some a) := by show _ = _; rw [← ha]; simp [hlt]
        have HB : Hid (ys[k]? = some b) := by show _ = _; rw [← hb]; simp [hlt2]
        clear ha hb hcx hcy
        have hlt' : (k : Int) < (xs.length : Int) := by omega
        have hlt2' : (k : Int) < (ys.length : Int) := by omega
        have hk1 : (k : Int) + 1 ≤ 9223372036854775807 := by omega
        by_cases hab : a = b
        · have hne : (a != b) = false := by simpa using hab
          have HAB := hab
          have hnext : Hid (xs.take (k + 1) = ys.take (k + 1)) := by
            show _ = _
            rw [List.take_add_one, List.take_add_one, HA.out, HB.out, heq.out, hab]
          clear hab HAB
          go_wp2
          go_quiet (fail)
          go_wp2
          go_roundw
          case rel => exact ⟨k + 1, by omega, by go_num, hnext, _, rfl⟩
          case measure => simp [intOf]; omega
        · have hne : (a != b) = true := by simpa using hab
          have HN : Hid (¬ a = b) := hab
          clear hab
          go_wp2
          go_quiet (fail)
          go_wp2
          go_ret
          refine ⟨?_, _, drewN2 _ _ _⟩
          have hd : decide (xs = ys) = false := by
            simp
            rintro rfl
            have := HA.out.symm.trans HB.out
            simp at this
            exact HN.out this
          rw [hd]; rfl
      · go_wp2
        go_ret
        refine ⟨?_, _, rfl⟩
        have hd : decide (xs = ys) = true := by
          have := heq.out
          rw [List.take_of_length_le (by omega), List.take_of_length_le (by have := HL.out; omega)] at this
          simpa using this
        rw [hd]; rfl
  · have hnb : ((xs.length : Int) != (ys.length : Int)) = true := by simp; omega
    have hd : decide (xs = ys) = false := by simp; rintro rfl; exact hlen rfl
    rw [hd]
    clear hlen
    go_enter Try.func46, Try.ntmps46
    go_wp2
    go_ret
    exact ⟨rfl, 0, rfl⟩

/-- What was lent is as it was. -/
theorem kept_at (g cap c : Nat) (q : Option Addr) (xs : List Int) (w : World) (hx : ∀ j, j < (xs ++ [77, 77, 77]).length → w.cell? ⟨g, j, none⟩ = some (I64 ((xs ++ [77, 77, 77])[j]?.getD 0))) (hy : IntsAt w q xs) (hl : xs.length + 3 ≤ maxLen) (hc : xs.length + 3 ≤ cap) :
    Calls Try.prog 24 #[.slice (some ⟨g, 0, none⟩) (xs.length + 3) cap, .slice q xs.length c] w fun e w' => e = .returned (.bool true) ∧ ∃ n, w' = w.drewN n := by
  have hlm : xs.length ≤ maxLen := by omega
  unfold maxLen at hl
  have z0 : w.cell? ⟨g, xs.length, none⟩ = some (I64 77) := by rw [hx _ (by simp)]; simp
  have z1 : w.cell? ⟨g, xs.length + 1, none⟩ = some (I64 77) := by rw [hx _ (by simp)]; simp
  have z2 : w.cell? ⟨g, xs.length + 2, none⟩ = some (I64 77) := by rw [hx _ (by simp)]; simp
  have hxs : IntsAt w (some ⟨g, 0, none⟩) xs := by
    refine IntsAt.take (ys := [77, 77, 77]) (.inr ⟨g, 0, rfl, fun j hj => ?_⟩)
    simpa using hx j hj
  clear hx
  have n0 : (xs.length : Int) ≤ (cap : Int) := by omega
  have n1 : (xs.length : Int) + 2 ≤ 9223372036854775807 := by omega
  have n2 : (0 : Int) ≤ (xs.length : Int) := by omega
  go_enter Try.func24, Try.ntmps24
  go_wp2_with fail
  refine (sameInts_at (some ⟨g, 0, none⟩) q cap c xs xs _ hxs hy hlm).mono ?_
  rintro e w1 ⟨rfl, n, rfl⟩
  rw [show decide (xs = xs) = true by simp]
  go_wp2
  go_ret
  exact ⟨rfl, n, rfl⟩

/-- A list of one's own is written over. -/
theorem over_at (g cap n : Nat) (cur : Array Value) (w : World) (hg : w.heap[g]? = some (.cells cur 3 (0, 0))) (hs : n ≤ cur.size) (hl : n ≤ maxLen) :
    Calls Try.prog 26 #[.slice (some ⟨g, 0, none⟩) n cap] w fun e w' => e = .returned (.tuple #[]) ∧ Chg (fun k => k = g) w w' ∧ ∃ cur', w'.heap[g]? = some (.cells cur' 3 (0, 0)) := by
  unfold maxLen at hl
  have hle : (n : Int) ≤ 9223372036854775807 := by omega
  have HG : Hid (w.heap[g]? = some (.cells cur 3 (0, 0))) := hg
  clear hg
  go_enter Try.func26, Try.ntmps26
  go_wp2
  go_loopw [2] (fun i wr => ∃ k : Nat, k ≤ n ∧ i = .int .i64 k ∧ Chg (fun k => k = g) w wr ∧ ∃ cur' : Array Value, Hid (wr.heap[g]? = some (.cells cur' 3 (0, 0))) ∧ n ≤ cur'.size)
    (fun i _ => n - (intOf i).toNat)
  case atStart => exact ⟨0, by omega, rfl, Chg.refl _ _, cur, HG, hs⟩
  case round =>
    obtain ⟨k, hk, rfl, hc, cur', hcur, hsz⟩ := hrel
    by_cases hlt : k < n
    · have hlt' : (k : Int) < (n : Int) := by omega
      have hk1 : (k : Int) + 1 ≤ 9223372036854775807 := by omega
      obtain ⟨v, hv⟩ : ∃ v, wr.cell? ⟨g, k, none⟩ = some v := ⟨cur'[k]'(by omega), by rw [cell_of_heap hcur.out]; simp⟩
      have hf : wr.frozen? ⟨g, k, none⟩ = false := frozen_of_heap hcur.out k
      go_wp2
      go_roundw
      case rel =>
        refine ⟨k + 1, by omega, by go_num, hc.setCell (p := ⟨g, k, none⟩) (.inl rfl) _, cur'.setIfInBounds k (.int .i64 (-77)), ?_, ?_⟩
        · exact heap_setCell_same wr g k _ _ _ hcur.out
        · simpa using hsz
      case measure => simp [intOf]; omega
    · go_wp2
      go_end0
      exact ⟨rfl, hc, cur', hcur.out⟩

/-- These may be the weights of voters. -/
def okW (ws : List Int) : Bool := decide (1 ≤ ws.length) && decide (ws.length ≤ 12) && ws.all (fun x => decide (1 ≤ x) && decide (x ≤ 100))

theorem okW_long {ws : List Int} (h : 12 < ws.length) : okW ws = false := by simp [okW]; omega
theorem okW_short {ws : List Int} (h : ws.length < 1) : okW ws = false := by simp [okW]; omega
theorem okW_at {ws : List Int} {x : Int} (h : x ∈ ws) (hx : x < 1 ∨ 100 < x) : okW ws = false := by
  have : ws.all (fun x => decide (1 ≤ x) && decide (x ≤ 100)) = false := by
    rw [List.all_eq_false]; exact ⟨x, h, by simp; omega⟩
  simp [okW, this]
theorem okW_all {ws : List Int} (h1 : 1 ≤ ws.length) (h2 : ws.length ≤ 12) (h : ∀ x ∈ ws, 1 ≤ x ∧ x ≤ 100) : okW ws = true := by
  have : ws.all (fun x => decide (1 ≤ x) && decide (x ≤ 100)) = true := by
    rw [List.all_eq_true]; intro x hx; have := h x hx; simp; omega
  simp [okW, this, h1, h2]
end Go.Proofs.Ytgebcnnenhgkcaa
