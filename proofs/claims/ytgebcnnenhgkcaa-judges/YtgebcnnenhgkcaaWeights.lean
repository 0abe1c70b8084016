/- The tests of weights: the program's and the document's. -/
import Derived.Test.YtgebcnnenhgkcaaIntsA
namespace Go.Proofs.Ytgebcnnenhgkcaa
open Go.RowKit

set_option maxHeartbeats 1000000 in
theorem right_at (p : Option Addr) (c : Nat) (ws : List Int) (w : World) (hx : IntsAt w p ws) (hl : ws.length ≤ maxLen) :
    Calls Try.prog 42 #[.slice p ws.length c] w fun e w' => e = .returned (.bool (okW ws)) ∧ w' = w := by
  unfold maxLen at hl
  by_cases h1 : ws.length < 1
  · rw [okW_short h1]
    have h1' : (ws.length : Int) < 1 := by omega
    go_enter Try.func42, Try.ntmps42
    go_wp2
    go_ret
    exact ⟨rfl, rfl⟩
  by_cases h2 : 12 < ws.length
  · rw [okW_long h2]
    have h1' : ¬ (ws.length : Int) < 1 := by omega
    have h2' : (12 : Int) < (ws.length : Int) := by omega
    go_enter Try.func42, Try.ntmps42
    go_wp2
    go_ret
    exact ⟨rfl, rfl⟩
  rcases hx with rfl | ⟨g, o, rfl, hcx⟩
  · simp at h1
  have HCX : Hid (∀ j, j < ws.length → w.cell? ⟨g, o + j, none⟩ = some (I64 (ws[j]?.getD 0))) := hcx
  clear hcx
  have h1' : ¬ (ws.length : Int) < 1 := by omega
  have h2' : ¬ (12 : Int) < (ws.length : Int) := by omega
  go_enter Try.func42, Try.ntmps42
  go_wp2
  go_loop [15] (fun i => ∃ k : Nat, k ≤ ws.length ∧ i = .int .i64 k ∧ Hid (∀ x ∈ ws.take k, 1 ≤ x ∧ x ≤ 100))
    (fun i => ws.length - (intOf i).toNat)
  case atStart => exact ⟨0, by omega, rfl, by simp [Hid]⟩
  case round =>
    obtain ⟨k, hk, rfl, hok⟩ := hrel
    by_cases hlt : k < ws.length
    · have hlt' : (k : Int) < (ws.length : Int) := by omega
      obtain ⟨x, hxk⟩ : ∃ x, ws[k]?.getD 0 = x := ⟨_, rfl⟩
      have hc : w.cell? ⟨g, o + k, none⟩ = some (I64 x) := by rw [← hxk]; exact HCX.out k hlt
      have HX : Hid (ws[k]? = some x) := by show _ = _; rw [← hxk]; simp [hlt]
      clear hxk
      have hmem : x ∈ ws := List.mem_of_getElem? HX.out
      by_cases hb : x < 1
      · have HF : Hid (okW ws = false) := okW_at hmem (.inl hb)
        go_wp2
        go_ret
        exact ⟨by rw [HF.out]; rfl, rfl⟩
      by_cases hb2 : 100 < x
      · have HF : Hid (okW ws = false) := okW_at hmem (.inr hb2)
        go_wp2
        go_ret
        exact ⟨by rw [HF.out]; rfl, rfl⟩
      have hnext : Hid (∀ x ∈ ws.take (k + 1), 1 ≤ x ∧ x ≤ 100) := by
        show ∀ y ∈ _, _
        rw [List.take_add_one, HX.out]
        intro y hy
        simp at hy
        rcases hy with hy | rfl
        · exact hok.out y hy
        · omega
      go_wp2
      go_round
      case rel => exact ⟨k + 1, by omega, by go_num, hnext⟩
      case measure => simp [intOf]; omega
    · have HT : Hid (okW ws = true) := by
        have := hok.out
        rw [List.take_of_length_le (by omega)] at this
        exact okW_all (by omega) (by omega) this
      go_wp2
      go_ret
      exact ⟨by rw [HT.out]; rfl, rfl⟩

set_option maxHeartbeats 1000000 in
theorem refWeights_at (p : Option Addr) (c : Nat) (ws : List Int) (w : World) (hx : IntsAt w p ws) (hl : ws.length ≤ maxLen) :
    Calls Try.prog 47 #[.slice p ws.length c] w fun e w' => e = .returned (.bool (okW ws)) ∧ w' = w := by
  unfold maxLen at hl
  by_cases h1 : ws.length < 1
  · rw [okW_short h1]
    have h1' : (ws.length : Int) < 1 := by omega
    go_enter Try.func47, Try.ntmps47
    go_wp2
    go_ret
    exact ⟨rfl, rfl⟩
  by_cases h2 : 12 < ws.length
  · rw [okW_long h2]
    have h1' : ¬ (ws.length : Int) < 1 := by omega
    have h2' : (12 : Int) < (ws.length : Int) := by omega
    go_enter Try.func47, Try.ntmps47
    go_wp2
    go_ret
    exact ⟨rfl, rfl⟩
  rcases hx with rfl | ⟨g, o, rfl, hcx⟩
  · simp at h1
  have HCX : Hid (∀ j, j < ws.length → w.cell? ⟨g, o + j, none⟩ = some (I64 (ws[j]?.getD 0))) := hcx
  clear hcx
  have h1' : ¬ (ws.length : Int) < 1 := by omega
  have h2' : ¬ (12 : Int) < (ws.length : Int) := by omega
  go_enter Try.func47, Try.ntmps47
  go_wp2
  go_loop [3] (fun i => ∃ k : Nat, k ≤ ws.length ∧ i = .int .i64 k ∧ Hid (∀ x ∈ ws.take k, 1 ≤ x ∧ x ≤ 100))
    (fun i => ws.length - (intOf i).toNat)
  case atStart => exact ⟨0, by omega, rfl, by simp [Hid]⟩
  case round =>
    obtain ⟨k, hk, rfl, hok⟩ := hrel
    by_cases hlt : k < ws.length
    · have hlt' : (k : Int) < (ws.length : Int) := by omega
      obtain ⟨x, hxk⟩ : ∃ x, ws[k]?.getD 0 = x := ⟨_, rfl⟩
      have hc : w.cell? ⟨g, o + k, none⟩ = some (I64 x) := by rw [← hxk]; exact HCX.out k hlt
      have HX : Hid (ws[k]? = some x) := by show _ = _; rw [← hxk]; simp [hlt]
      clear hxk
      have hmem : x ∈ ws := List.mem_of_getElem? HX.out
      by_cases hb : x < 1
      · have HF : Hid (okW ws = false) := okW_at hmem (.inl hb)
        go_wp2
        go_ret
        exact ⟨by rw [HF.out]; rfl, rfl⟩
      by_cases hb2 : 100 < x
      · have HF : Hid (okW ws = false) := okW_at hmem (.inr hb2)
        go_wp2
        go_ret
        exact ⟨by rw [HF.out]; rfl, rfl⟩
      have hnext : Hid (∀ x ∈ ws.take (k + 1), 1 ≤ x ∧ x ≤ 100) := by
        show ∀ y ∈ _, _
        rw [List.take_add_one, HX.out]
        intro y hy
        simp at hy
        rcases hy with hy | rfl
        · exact hok.out y hy
        · omega
      go_wp2
      go_round
      case rel => exact ⟨k + 1, by omega, by go_num, hnext⟩
      case measure => simp [intOf]; omega
    · have HT : Hid (okW ws = true) := by
        have := hok.out
        rw [List.take_of_length_le (by omega)] at this
        exact okW_all (by omega) (by omega) this
      go_wp2
      go_ret
      exact ⟨by rw [HT.out]; rfl, rfl⟩

end Go.Proofs.Ytgebcnnenhgkcaa
