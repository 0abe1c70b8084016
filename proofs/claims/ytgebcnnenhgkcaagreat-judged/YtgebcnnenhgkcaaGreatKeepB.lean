/- The statements without the document's answer: the caller's tree: height, ahead, agree, may. -/
import Derived.Test.YtgebcnnenhgkcaaGreatKeepA
namespace Go.Proofs.YtgebcnnenhgkcaaGreat
open Go.RowKit

theorem kht_zero (ps : List Int) : ht ps 0 = 0 := rfl
theorem kht_step {ps : List Int} (hT : Tree ps) {b : Int} (h0 : 0 < b) (hl : b.toNat < ps.length) : ht ps b = ht ps (ps[b.toNat]?.getD 0) + 1 := by
  unfold ht; rw [up_step hT h0 hl]; simp

theorem kHeight_at (b g cap : Nat) (ps : List Int) (hT : Tree ps) (k : Int) (hk0 : 0 ≤ k) (hk1 : k.toNat < ps.length) (w : World) (hA : TreeAt w b 0 g cap ps) :
    Calls Tryz.prog 103 #[.pointer (some ⟨b, 0, none⟩), .int .i64 k] w fun e w' => e = .returned (.int .i64 (ht ps k)) ∧ w' = w := by
  have hlen : ps.length ≤ 40 := hT.2.1
  have hpv := hA.pv
  have hb := ht_bounds hT hk0 hk1
  go_enter Tryz.func103, Tryz.ntmps103
  go_wp2
  go_loop [1, 5] (fun p c => ∃ (x : Int) (n : Int), p = .int .i64 x ∧ c = .int .i64 n ∧ 0 ≤ x ∧ x.toNat < ps.length ∧ 0 ≤ n ∧ n ≤ 40 - x ∧ Hid (ht ps k = n + ht ps x)) (fun p _ => (intOf p).toNat)
  case atStart => exact ⟨k, 0, rfl, rfl, hk0, hk1, by omega, by omega, by show _ = _; omega⟩
  case round =>
    obtain ⟨x, n, rfl, rfl, hx0, hx1, hn0, hn1, hah⟩ := hrel
    by_cases hx : x = 0
    · subst hx
      go_wp2
      go_ret
      exact ⟨by rw [hah.out, kht_zero, Int.add_zero]; rfl, rfl⟩
    · have hxp : 0 < x := by omega
      have hxb : (x != 0) = true := by simpa using hx
      obtain ⟨p, hpe⟩ : ∃ p, ps[x.toNat]?.getD 0 = p := ⟨_, rfl⟩
      have hcx : w.cell? ⟨g, x.toNat, none⟩ = some (.int .i64 p) := by rw [← hpe]; exact hA.cs _ hx1
      have hpr := hT.2.2.2 x.toNat (by omega) hx1
      rw [hpe] at hpr
      have HS : Hid (ht ps x = ht ps p + 1) := by show _ = _; rw [← hpe]; exact kht_step hT hxp hx1
      clear hpe
      go_wp2
      go_round
      case rel => exact ⟨p, n + 1, rfl, by go_num, by omega, by omega, by omega, by omega, by show _ = _; rw [hah.out, HS.out]; omega⟩
      case measure => simp [intOf]; omega

theorem kAhead_at (b g cap : Nat) (ps : List Int) (hT : Tree ps) (a k : Int) (hk0 : 0 ≤ k) (hk1 : k.toNat < ps.length) (w : World) (hA : TreeAt w b 0 g cap ps) :
    Calls Tryz.prog 64 #[.pointer (some ⟨b, 0, none⟩), .int .i64 a, .int .i64 k] w fun e w' => e = .returned (.bool (ahead ps a k)) ∧ w' = w := by
  have hlen : ps.length ≤ 40 := hT.2.1
  have hpv := hA.pv
  go_enter Tryz.func64, Tryz.ntmps64
  go_wp2
  go_loop [2] (fun p => ∃ x : Int, p = .int .i64 x ∧ 0 ≤ x ∧ x.toNat < ps.length ∧ Hid (ahead ps a k = ahead ps a x)) (fun p => (intOf p).toNat)
  case atStart => exact ⟨k, rfl, hk0, hk1, rfl⟩
  case round =>
    obtain ⟨x, rfl, hx0, hx1, hah⟩ := hrel
    by_cases hx : x = 0
    · subst hx
      go_wp2
      go_ret
      exact ⟨by rw [hah.out]; rfl, rfl⟩
    · have hxp : 0 < x := by omega
      have hxb : (x != 0) = true := by simpa using hx
      obtain ⟨p, hpe⟩ : ∃ p, ps[x.toNat]?.getD 0 = p := ⟨_, rfl⟩
      have hcx : w.cell? ⟨g, x.toNat, none⟩ = some (.int .i64 p) := by rw [← hpe]; exact hA.cs _ hx1
      have hpr := hT.2.2.2 x.toNat (by omega) hx1
      rw [hpe] at hpr
      have HS : Hid (ahead ps a x = (p == a || ahead ps a p)) := by rw [← hpe]; exact ahead_step hT hxp hx1
      clear hpe
      by_cases hap : a = p
      · subst hap
        have hb : (a == a) = true := by simp
        go_wp2
        go_ret
        exact ⟨by rw [hah.out, HS.out]; simp, rfl⟩
      · have hb : (a == p) = false := by simpa using hap
        go_wp2
        go_round
        case rel => exact ⟨p, rfl, by omega, by omega, by show _ = _; rw [hah.out, HS.out]; simp [Ne.symm hap]⟩
        case measure => simp [intOf]; omega

theorem kAgree_at (b g cap : Nat) (ps : List Int) (hT : Tree ps) (x y : Int) (hx0 : 0 ≤ x) (hx1 : x.toNat < ps.length) (hy0 : 0 ≤ y) (hy1 : y.toNat < ps.length) (w : World) (hA : TreeAt w b 0 g cap ps) :
    Calls Tryz.prog 27 #[.pointer (some ⟨b, 0, none⟩), .int .i64 x, .int .i64 y] w fun e w' => e = .returned (.bool (x == y || (ahead ps x y || ahead ps y x))) ∧ w' = w := by
  have c1 := kAhead_at b g cap ps hT x y hy0 hy1 w hA
  have c2 := kAhead_at b g cap ps hT y x hx0 hx1 w hA
  generalize ahead ps x y = q1 at c1 ⊢
  generalize ahead ps y x = q2 at c2 ⊢
  clear hA
  go_enter Tryz.func27, Tryz.ntmps27
  go_wp2_with fail
  refine c1.mono ?_
  rintro e w1 ⟨rfl, rfl⟩
  go_wp2_with fail
  refine c2.mono ?_
  rintro e w1 ⟨rfl, rfl⟩
  clear c1 c2
  cases hq : x == y <;> cases q1 <;> cases q2
  all_goals
    go_wp2
    go_ret
    exact ⟨by rw [hq]; rfl, rfl⟩

set_option maxRecDepth 100000 in
set_option maxHeartbeats 2000000 in
theorem kMay_at (b g cap : Nat) (ps : List Int) (hT : Tree ps) (x y : Vt) (hv : x.v = y.v) (hx : OkB ps x) (hy : OkB ps y) (w : World) (hA : TreeAt w b 0 g cap ps) :
    Calls Tryz.prog 65 #[.pointer (some ⟨b, 0, none⟩), x.val, y.val] w fun e w' => e = .returned (.bool (decide (kindI ps x y = 0))) ∧ Below w.heap.size w w' := by
  have hlb := hA.lt_b
  have hlg := hA.lt_g hT.1
  have hB0 : Below w.heap.size w ((w.alloc (.cells #[I64 x.v, I64 x.s, I64 x.t] 47)).alloc (.cells #[I64 y.v, I64 y.s, I64 y.t] 47)) := ((Below.refl _ w).alloc (Nat.le_refl _) _).alloc (by simp) _
  have hA0 := hA.below hB0 hlb hlg
  have heights : ∀ (k : Int), 0 ≤ k → k.toNat < ps.length → Calls Tryz.prog 103 #[.pointer (some ⟨b, 0, none⟩), .int .i64 k] ((w.alloc (.cells #[I64 x.v, I64 x.s, I64 x.t] 47)).alloc (.cells #[I64 y.v, I64 y.s, I64 y.t] 47)) fun e w' => e = .returned (.int .i64 (ht ps k)) ∧ w' = ((w.alloc (.cells #[I64 x.v, I64 x.s, I64 x.t] 47)).alloc (.cells #[I64 y.v, I64 y.s, I64 y.t] 47)) := fun k h0 h1 => kHeight_at b g cap ps hT k h0 h1 _ hA0
  have c1 := heights x.s hx.s0 hx.s1
  have c2 := heights x.t hx.t0 hx.t1
  have c3 := heights y.s hy.s0 hy.s1
  have c4 := heights y.t hy.t0 hy.t1
  obtain ⟨a1, ha1⟩ : ∃ z, ht ps x.s = z := ⟨_, rfl⟩
  obtain ⟨a2, ha2⟩ : ∃ z, ht ps x.t = z := ⟨_, rfl⟩
  obtain ⟨a3, ha3⟩ : ∃ z, ht ps y.s = z := ⟨_, rfl⟩
  obtain ⟨a4, ha4⟩ : ∃ z, ht ps y.t = z := ⟨_, rfl⟩
  rw [ha1] at c1
  rw [ha2] at c2
  rw [ha3] at c3
  rw [ha4] at c4
  have HK : Hid (decide (kindI ps x y = 0) = ((x.s == y.s && x.t == y.t) || (!decide (a2 = a4) && !(decide (a1 < a3) && decide (a4 < a2)) && !(decide (a3 < a1) && decide (a2 < a4))))) := by
    show _ = _
    unfold kindI Vt.is
    rw [ha1, ha2, ha3, ha4]
    have q1 : (x.v == y.v) = true := by simpa using hv
    rw [q1, Bool.true_and]
    cases (x.s == y.s && x.t == y.t)
    · by_cases e1 : a2 = a4
      · simp [e1]
      · by_cases e2 : a1 < a3 <;> by_cases e3 : a4 < a2 <;> by_cases e4 : a3 < a1 <;> by_cases e5 : a2 < a4 <;> simp [e1, e2, e3, e4, e5]
    · simp
  clear ha1 ha2 ha3 ha4 heights hA0 hv
  go_enter Tryz.func65, Tryz.ntmps65
  go_wp2_with fail
  refine c1.mono ?_
  rintro e w1 ⟨rfl, rfl⟩
  go_wp2_with fail
  refine c3.mono ?_
  rintro e w1 ⟨rfl, rfl⟩
  go_wp2_with fail
  refine c2.mono ?_
  rintro e w1 ⟨rfl, rfl⟩
  go_wp2_with fail
  refine c4.mono ?_
  rintro e w1 ⟨rfl, rfl⟩
  clear c1 c2 c3 c4
  have hs : ((x.s == y.s) = true ∧ (x.t == y.t) = true) ∨ ((x.s == y.s) = false ∨ ((x.s == y.s) = true ∧ (x.t == y.t) = false)) := by
    cases (x.s == y.s) <;> cases (x.t == y.t) <;> simp
  rcases hs with ⟨q2, q3⟩ | hs
  · have HR : Hid (decide (kindI ps x y = 0) = true) := by show _ = _; rw [HK.out, q2, q3]; rfl
    clear HK
    go_wp2
    go_ret
    exact ⟨by rw [HR.out]; rfl, hB0⟩
  have hsf : (x.s == y.s && x.t == y.t) = false := by rcases hs with h | ⟨_, h⟩ <;> simp [h]
  rw [hsf, Bool.false_or] at HK
  clear hsf
  by_cases h1 : a2 = a4
  · have p1 : (a2 != a4) = false := by simpa using h1
    have HR : Hid (decide (kindI ps x y = 0) = false) := by show _ = _; rw [HK.out]; simp [h1]
    clear HK h1
    rcases hs with q2 | ⟨q2, q3⟩
    all_goals
      go_wp2
      go_ret
      exact ⟨by rw [HR.out]; rfl, hB0⟩
  have p1 : (a2 != a4) = true := by simpa using h1
  by_cases e2 : a1 < a3 <;> by_cases e3 : a4 < a2 <;> by_cases e4 : a3 < a1 <;> by_cases e5 : a2 < a4
  all_goals first | (exfalso; omega) | skip
  all_goals
    simp only [h1, e2, e3, e4, e5, decide_true, decide_false, Bool.not_false, Bool.not_true, Bool.and_true, Bool.and_false] at HK
    clear h1
    rcases hs with q2 | ⟨q2, q3⟩
  all_goals
    go_wp2
    go_ret
    refine ⟨congrArg (fun z => Ending.returned (Value.bool z)) ?_, hB0⟩
    refine Eq.trans ?_ HK.out.symm
    first | rfl | (simp; omega)
end Go.Proofs.YtgebcnnenhgkcaaGreat
