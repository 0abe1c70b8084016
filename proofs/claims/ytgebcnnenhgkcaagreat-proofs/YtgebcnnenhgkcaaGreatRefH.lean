/- The document's own Court: Height, Kind. -/
import Derived.Test.YtgebcnnenhgkcaaGreatRefE
import Derived.Test.YtgebcnnenhgkcaaGreatHeightA
namespace Go.Proofs.YtgebcnnenhgkcaaGreat
open Go.RowKit

theorem ht_zero (ps : List Int) : ht ps 0 = 0 := rfl
theorem ht_step {ps : List Int} (hT : Tree ps) {b : Int} (h0 : 0 < b) (hl : b.toNat < ps.length) : ht ps b = ht ps (ps[b.toNat]?.getD 0) + 1 := by
  unfold ht; rw [up_step hT h0 hl]; simp

theorem refHeight_at (b g cap : Nat) (ps : List Int) (hT : Tree ps) (k : Int) (hk0 : 0 ≤ k) (hk1 : k.toNat < ps.length) (w : World) (hA : TreeAt w b 1 g cap ps) :
    Calls Tryz.prog 155 #[.pointer (some ⟨b, 0, none⟩), .int .i64 k] w fun e w' => e = .returned (.int .i64 (ht ps k)) ∧ w' = w := by
  have hlen : ps.length ≤ 40 := hT.2.1
  have hpv := hA.pv
  have hb := ht_bounds hT hk0 hk1
  go_enter Tryz.func155, Tryz.ntmps155
  go_wp2
  go_loop [1, 5] (fun p c => ∃ (x : Int) (n : Int), p = .int .i64 x ∧ c = .int .i64 n ∧ 0 ≤ x ∧ x.toNat < ps.length ∧ 0 ≤ n ∧ n ≤ 40 - x ∧ Hid (ht ps k = n + ht ps x)) (fun p _ => (intOf p).toNat)
  case atStart => exact ⟨k, 0, rfl, rfl, hk0, hk1, by omega, by omega, by show _ = _; omega⟩
  case round =>
    obtain ⟨x, n, rfl, rfl, hx0, hx1, hn0, hn1, hah⟩ := hrel
    by_cases hx : x = 0
    · subst hx
      go_wp2
      go_ret
      exact ⟨by rw [hah.out, ht_zero, Int.add_zero]; rfl, rfl⟩
    · have hxp : 0 < x := by omega
      have hxb : (x != 0) = true := by simpa using hx
      obtain ⟨p, hpe⟩ : ∃ p, ps[x.toNat]?.getD 0 = p := ⟨_, rfl⟩
      have hcx : w.cell? ⟨g, x.toNat, none⟩ = some (.int .i64 p) := by rw [← hpe]; exact hA.cs _ hx1
      have hpr := hT.2.2.2 x.toNat (by omega) hx1
      rw [hpe] at hpr
      have HS : Hid (ht ps x = ht ps p + 1) := by show _ = _; rw [← hpe]; exact ht_step hT hxp hx1
      clear hpe
      go_wp2
      go_round
      case rel => exact ⟨p, n + 1, rfl, by go_num, by omega, by omega, by omega, by omega, by show _ = _; rw [hah.out, HS.out]; omega⟩
      case measure => simp [intOf]; omega

set_option maxRecDepth 100000 in
set_option maxHeartbeats 2000000 in
theorem refKind_at (b g cap : Nat) (ps : List Int) (hT : Tree ps) (x y : Vt) (hv : x.v = y.v) (hx : OkB ps x) (hy : OkB ps y) (w : World) (hA : TreeAt w b 1 g cap ps) :
    Calls Tryz.prog 134 #[.pointer (some ⟨b, 0, none⟩), x.val, y.val] w fun e w' => e = .returned (.int .i64 (kindI ps x y)) ∧ Below w.heap.size w w' := by
  have hlb := hA.lt_b
  have hlg := hA.lt_g hT.1
  have q1 : (x.v == y.v) = true := by simpa using hv
  have hB0 : Below w.heap.size w ((w.alloc (.cells #[I64 x.v, I64 x.s, I64 x.t] 47)).alloc (.cells #[I64 y.v, I64 y.s, I64 y.t] 47)) := ((Below.refl _ w).alloc (Nat.le_refl _) _).alloc (by simp) _
  have hA0 := hA.below hB0 hlb hlg
  have heights : ∀ (k : Int), 0 ≤ k → k.toNat < ps.length → Calls Tryz.prog 155 #[.pointer (some ⟨b, 0, none⟩), .int .i64 k] ((w.alloc (.cells #[I64 x.v, I64 x.s, I64 x.t] 47)).alloc (.cells #[I64 y.v, I64 y.s, I64 y.t] 47)) fun e w' => e = .returned (.int .i64 (ht ps k)) ∧ w' = ((w.alloc (.cells #[I64 x.v, I64 x.s, I64 x.t] 47)).alloc (.cells #[I64 y.v, I64 y.s, I64 y.t] 47)) := fun k h0 h1 => refHeight_at b g cap ps hT k h0 h1 _ hA0
  have c1 := heights x.s hx.s0 hx.s1
  have c2 := heights x.t hx.t0 hx.t1
  have c3 := heights y.s hy.s0 hy.s1
  have c4 := heights y.t hy.t0 hy.t1
  obtain ⟨a1, ha1⟩ : ∃ z, ht ps x.s = z := ⟨_, rfl⟩
  obtain ⟨a2, ha2⟩ : ∃ z, ht ps x.t = z := ⟨_, rfl⟩
  obtain ⟨a3, ha3⟩ : ∃ z, ht ps y.s = z := ⟨_, rfl⟩
  obtain ⟨a4, ha4⟩ : ∃ z, ht ps y.t = z := ⟨_, rfl⟩
  rw [ha1] at c1
  rw [ha2] at c2
  rw [ha3] at c3
  rw [ha4] at c4
  have HK : Hid (x.is y = false → kindI ps x y = if a2 = a4 then 1 else if (a1 < a3 ∧ a4 < a2) ∨ (a3 < a1 ∧ a2 < a4) then 2 else 0) := by
    show _ → _
    intro he
    unfold kindI
    rw [he, ha1, ha2, ha3, ha4]; simp
  clear ha1 ha2 ha3 ha4 heights hA0
  have HV : Hid (x.v = y.v) := hv
  clear hv
  cases q2 : (x.s == y.s)
  · have HE : Hid (x.is y = false) := by show _ = _; unfold Vt.is; rw [q1, q2]; rfl
    go_enter Tryz.func134, Tryz.ntmps134
    go_wp2_with fail
    refine c1.mono ?_
    rintro e w1 ⟨rfl, rfl⟩
    go_wp2_with fail
    refine c2.mono ?_
    rintro e w1 ⟨rfl, rfl⟩
    go_wp2_with fail
    refine c3.mono ?_
    rintro e w1 ⟨rfl, rfl⟩
    go_wp2_with fail
    refine c4.mono ?_
    rintro e w1 ⟨rfl, rfl⟩
    clear c1 c2 c3 c4
    by_cases h1 : a2 = a4
    · have p1 : (a2 == a4) = true := by simpa using h1
      have HR : Hid (kindI ps x y = 1) := by show _ = _; rw [HK.out HE.out, if_pos h1]
      clear h1 HK
      go_wp2
      go_ret
      exact ⟨by rw [HR.out]; rfl, hB0⟩
    · have p1 : (a2 == a4) = false := by simpa using h1
      have HK2 : Hid (kindI ps x y = if (a1 < a3 ∧ a4 < a2) ∨ (a3 < a1 ∧ a2 < a4) then 2 else 0) := by show _ = _; rw [HK.out HE.out, if_neg h1]
      have hne : a4 < a2 ∨ a2 < a4 := by omega
      clear HK h1
      rcases hne with h2 | h2
      · have h3 : ¬ a2 < a4 := by omega
        by_cases h4 : a1 < a3
        · have h5 : ¬ a3 < a1 := by omega
          have HR : Hid (kindI ps x y = 2) := by show _ = _; rw [HK2.out, if_pos (.inl ⟨h4, h2⟩)]
          clear HK2
          go_wp2
          go_ret
          exact ⟨by rw [HR.out]; rfl, hB0⟩
        · have HR : Hid (kindI ps x y = 0) := by show _ = _; rw [HK2.out, if_neg (by omega)]
          clear HK2
          by_cases h5 : a3 < a1
          all_goals
            go_wp2
            go_ret
            exact ⟨by rw [HR.out]; rfl, hB0⟩
      · have h3 : ¬ a4 < a2 := by omega
        by_cases h4 : a3 < a1
        · have h5 : ¬ a1 < a3 := by omega
          have HR : Hid (kindI ps x y = 2) := by show _ = _; rw [HK2.out, if_pos (.inr ⟨h4, h2⟩)]
          clear HK2
          go_wp2
          go_ret
          exact ⟨by rw [HR.out]; rfl, hB0⟩
        · have HR : Hid (kindI ps x y = 0) := by show _ = _; rw [HK2.out, if_neg (by omega)]
          clear HK2
          by_cases h5 : a1 < a3
          all_goals
            go_wp2
            go_ret
            exact ⟨by rw [HR.out]; rfl, hB0⟩
  · cases q3 : (x.t == y.t)
    · have HE : Hid (x.is y = false) := by show _ = _; unfold Vt.is; rw [q1, q2, q3]; rfl
      go_enter Tryz.func134, Tryz.ntmps134
      go_wp2_with fail
      refine c1.mono ?_
      rintro e w1 ⟨rfl, rfl⟩
      go_wp2_with fail
      refine c2.mono ?_
      rintro e w1 ⟨rfl, rfl⟩
      go_wp2_with fail
      refine c3.mono ?_
      rintro e w1 ⟨rfl, rfl⟩
      go_wp2_with fail
      refine c4.mono ?_
      rintro e w1 ⟨rfl, rfl⟩
      clear c1 c2 c3 c4
      by_cases h1 : a2 = a4
      · have p1 : (a2 == a4) = true := by simpa using h1
        have HR : Hid (kindI ps x y = 1) := by show _ = _; rw [HK.out HE.out, if_pos h1]
        clear h1 HK
        go_wp2
        go_ret
        exact ⟨by rw [HR.out]; rfl, hB0⟩
      · have p1 : (a2 == a4) = false := by simpa using h1
        have HK2 : Hid (kindI ps x y = if (a1 < a3 ∧ a4 < a2) ∨ (a3 < a1 ∧ a2 < a4) then 2 else 0) := by show _ = _; rw [HK.out HE.out, if_neg h1]
        have hne : a4 < a2 ∨ a2 < a4 := by omega
        clear HK h1
        rcases hne with h2 | h2
        · have h3 : ¬ a2 < a4 := by omega
          by_cases h4 : a1 < a3
          · have h5 : ¬ a3 < a1 := by omega
            have HR : Hid (kindI ps x y = 2) := by show _ = _; rw [HK2.out, if_pos (.inl ⟨h4, h2⟩)]
            clear HK2
            go_wp2
            go_ret
            exact ⟨by rw [HR.out]; rfl, hB0⟩
          · have HR : Hid (kindI ps x y = 0) := by show _ = _; rw [HK2.out, if_neg (by omega)]
            clear HK2
            by_cases h5 : a3 < a1
            all_goals
              go_wp2
              go_ret
              exact ⟨by rw [HR.out]; rfl, hB0⟩
        · have h3 : ¬ a4 < a2 := by omega
          by_cases h4 : a3 < a1
          · have h5 : ¬ a1 < a3 := by omega
            have HR : Hid (kindI ps x y = 2) := by show _ = _; rw [HK2.out, if_pos (.inr ⟨h4, h2⟩)]
            clear HK2
            go_wp2
            go_ret
            exact ⟨by rw [HR.out]; rfl, hB0⟩
          · have HR : Hid (kindI ps x y = 0) := by show _ = _; rw [HK2.out, if_neg (by omega)]
            clear HK2
            by_cases h5 : a1 < a3
            all_goals
              go_wp2
              go_ret
              exact ⟨by rw [HR.out]; rfl, hB0⟩
    · have HE : Hid (kindI ps x y = 0) := by show _ = _; unfold kindI; rw [if_pos (by unfold Vt.is; rw [q1, q2, q3]; rfl)]
      go_enter Tryz.func134, Tryz.ntmps134
      go_wp2
      go_ret
      exact ⟨by rw [HE.out]; rfl, hB0⟩
end Go.Proofs.YtgebcnnenhgkcaaGreat
