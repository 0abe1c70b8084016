/- The statements' own look at Just, Final and Guilty, of both Courts. -/
import Derived.Test.YtgebcnnenhgkcaaGreatSteps
import Derived.Test.YtgebcnnenhgkcaaGreatRefG
import Derived.Test.YtgebcnnenhgkcaaGreatRefI
namespace Go.Proofs.YtgebcnnenhgkcaaGreat
open Go.RowKit

theorem row_ints {w : World} {base : Nat} {v : Value} {l : List Int} (h : w.ownsRow base 3 1 v l.length (l.map I64)) : ∃ p c, v = .slice p l.length c ∧ IntsAt w p l := by
  by_cases h0 : 0 < l.length
  · obtain ⟨g, cap, rfl, _, _, hc, _⟩ := row_open (row_low h) h0
    exact ⟨_, _, rfl, .inr ⟨g, 0, rfl, fun j hj => by rw [Nat.zero_add]; exact hc j hj⟩⟩
  · have hl : l = [] := List.length_eq_zero_iff.1 (by omega)
    subst hl
    rcases h.2 with ⟨rfl, _⟩ | ⟨g, cap, cur, rfl, _⟩
    · exact ⟨none, 0, rfl, .inl rfl⟩
    · exact ⟨_, _, rfl, .inl rfl⟩

section
variable {w w' : World} {Pr : Nat → Prop} {x b rb : Nat} {S R : Nat → Prop} {ws ps : List Int} {vs : List Vt}
/-- The program's Court is as it was; all else too. -/
theorem BothAt.same (h : BothAt w Pr x b rb S R ws ps vs) {wv pv vv : Value} (hC : CourtAt w' b S 0 ws ps vs wv pv vv) (hc : Chg S w w') : BothAt w' Pr x b rb S R ws ps vs := by
  obtain ⟨hbx, hdoc, hdis, hxS, hlow, _⟩ := h.courtTo hc (S' := S) (fun k hk => .inl hk)
  exact ⟨hbx.trans h.box, ⟨_, _, _, hC⟩, hdoc, hdis, hxS, h.xR, h.lowx, hlow, h.lowR, fun k hk => Nat.lt_of_lt_of_le (h.le k hk) hc.size, h.okw, h.T, h.len, h.okv⟩
end

set_option maxRecDepth 100000 in
set_option maxHeartbeats 2000000 in
theorem justLaw_at (Pr : Nat → Prop) (x : Nat) (ws ps : List Int) (vs : List Vt) (w : World) (h : Both w Pr x ws ps vs) :
    Calls Tryz.prog 45 #[.pointer (some ⟨x, 0, none⟩)] w fun e w' => (∃ v, e = .returned (.tuple #[v, .bool true]) ∧ w'.ownsRow w.heap.size 3 1 v (justL ws ps vs).length ((justL ws ps vs).map I64)) ∧ Both w' Pr x ws ps vs ∧ Chg (fun k => ¬ Pr k) w w' := by
  obtain ⟨b, rb, S, R, hb⟩ := h
  obtain ⟨wv, pv, vv, hC⟩ := hb.court
  have hW := okWs_of hb.okw
  have hx0 := hb.x0
  have hjl : (justL ws ps vs).length ≤ ps.length := justN_length ws ps vs ps.length
  have hT40 := hb.T.2.1
  go_enter Tryz.func45, Tryz.ntmps45
  go_wp2_with fail
  refine (just_at b S ws ps vs wv pv vv _ hC hb.T hW hb.len hb.okv).mono ?_
  rintro e w1 ⟨⟨v, rfl, hrow⟩, hC1, hc1⟩
  have hb1 := hb.same hC1 hc1
  have hx1 := hb1.x1
  obtain ⟨_, _, _, hR1⟩ := hb1.doc
  clear hx0
  go_wp2_with fail
  refine (refJust_at rb R ws ps vs _ _ _ _ hR1 hb.T hW hb.len hb.okv).mono ?_
  rintro e w2 ⟨⟨v2, rfl, hrow2⟩, hB2⟩
  have hrow1 := row_below hrow hB2 (Nat.le_refl _)
  obtain ⟨p1, d1, rfl, hi1⟩ := row_ints hrow1
  obtain ⟨p2, d2, rfl, hi2⟩ := row_ints hrow2
  have hb2 := hb1.kept hB2
  have hcw : Chg (fun k => ¬ Pr k) w w2 := (hc1.mono (fun k _ hk => hb.lowS k hk)).trans (Chg.of_below _ hB2)
  clear hx1 hrow hrow2
  go_wp2_with fail
  refine (sameInts_at p1 p2 d1 d2 (justL ws ps vs) (justL ws ps vs) _ hi1 hi2 (by unfold maxLen; omega)).mono ?_
  rintro e w3 ⟨rfl, n, rfl⟩
  have hBd : Below w2.heap.size w2 (w2.drewN n) := below_drewN (Below.refl _ _) n
  have hd : decide (justL ws ps vs = justL ws ps vs) = true := by simp
  rw [hd]
  go_wp2
  go_ret2
  exact ⟨⟨_, rfl, row_below hrow1 hBd (Nat.le_refl _)⟩, ⟨b, rb, S, R, hb2.kept hBd⟩, hcw.trans (Chg.of_below _ hBd)⟩

set_option maxRecDepth 100000 in
set_option maxHeartbeats 2000000 in
theorem finalLaw_at (Pr : Nat → Prop) (x : Nat) (ws ps : List Int) (vs : List Vt) (w : World) (h : Both w Pr x ws ps vs) :
    Calls Tryz.prog 46 #[.pointer (some ⟨x, 0, none⟩)] w fun e w' => (∃ v, e = .returned (.tuple #[v, .bool true]) ∧ w'.ownsRow w.heap.size 3 1 v (finalL ws ps vs).length ((finalL ws ps vs).map I64)) ∧ Both w' Pr x ws ps vs ∧ Chg (fun k => ¬ Pr k) w w' := by
  obtain ⟨b, rb, S, R, hb⟩ := h
  obtain ⟨wv, pv, vv, hC⟩ := hb.court
  have hW := okWs_of hb.okw
  have hx0 := hb.x0
  have hjl : (finalL ws ps vs).length ≤ ps.length := Nat.le_trans (List.length_filter_le _ _) (justN_length ws ps vs ps.length)
  have hT40 := hb.T.2.1
  go_enter Tryz.func46, Tryz.ntmps46
  go_wp2_with fail
  refine (final_at b S ws ps vs wv pv vv _ hC hb.T hW hb.len hb.okv).mono ?_
  rintro e w1 ⟨⟨v, rfl, hrow⟩, hC1, hc1⟩
  have hb1 := hb.same hC1 hc1
  have hx1 := hb1.x1
  obtain ⟨_, _, _, hR1⟩ := hb1.doc
  clear hx0
  go_wp2_with fail
  refine (refFinal_at rb R ws ps vs _ _ _ _ hR1 hb.T hW hb.len hb.okv).mono ?_
  rintro e w2 ⟨⟨v2, rfl, hrow2⟩, hB2⟩
  have hrow1 := row_below hrow hB2 (Nat.le_refl _)
  obtain ⟨p1, d1, rfl, hi1⟩ := row_ints hrow1
  obtain ⟨p2, d2, rfl, hi2⟩ := row_ints hrow2
  have hb2 := hb1.kept hB2
  have hcw : Chg (fun k => ¬ Pr k) w w2 := (hc1.mono (fun k _ hk => hb.lowS k hk)).trans (Chg.of_below _ hB2)
  clear hx1 hrow hrow2
  go_wp2_with fail
  refine (sameInts_at p1 p2 d1 d2 (finalL ws ps vs) (finalL ws ps vs) _ hi1 hi2 (by unfold maxLen; omega)).mono ?_
  rintro e w3 ⟨rfl, n, rfl⟩
  have hBd : Below w2.heap.size w2 (w2.drewN n) := below_drewN (Below.refl _ _) n
  have hd : decide (finalL ws ps vs = finalL ws ps vs) = true := by simp
  rw [hd]
  go_wp2
  go_ret2
  exact ⟨⟨_, rfl, row_below hrow1 hBd (Nat.le_refl _)⟩, ⟨b, rb, S, R, hb2.kept hBd⟩, hcw.trans (Chg.of_below _ hBd)⟩

theorem sameVotesL_at (x : Vt) (w : World) :
    Calls Tryz.prog 14 #[x.val, x.val] w fun e w' => e = .returned (.bool true) ∧ Below w.heap.size w w' := by
  go_enter Tryz.func14, Tryz.ntmps14
  go_wp2
  go_ret
  exact ⟨rfl, ((Below.refl _ w).alloc (Nat.le_refl _) _).alloc (by simp) _⟩

/-- A list of guilt in memory. -/
def GuAt (w : World) (v : Value) (gs : List Gu) : Prop := (∃ p c, v = .slice p gs.length c) ∧ ∀ j g, gs[j]? = some g → ∃ q c, v = .slice (some ⟨q, 0, none⟩) gs.length c ∧ q < w.heap.size ∧ ∀ i u, (guCells g)[i]? = some u → w.cell? ⟨q, j * 8 + i, none⟩ = some u
theorem guRow_length (gs : List Gu) : (guRow gs).length = gs.length * 8 := by
  induction gs with
  | nil => rfl
  | cons g r ih => simp [guRow, guCells] at *; omega
theorem guRow_at {gs : List Gu} {j : Nat} {g : Gu} (h : gs[j]? = some g) {i : Nat} {u : Value} (hu : (guCells g)[i]? = some u) : (guRow gs)[j * 8 + i]? = some u := by
  induction gs generalizing j with
  | nil => simp at h
  | cons a r ih =>
    have e : guRow (a :: r) = guCells a ++ guRow r := by simp [guRow]
    have hi : i < 8 := by have := (List.getElem?_eq_some_iff.1 hu).1; simpa [guCells] using this
    rw [e]
    cases j with
    | zero =>
      simp at h; subst h
      rw [List.getElem?_append_left (by simp [guCells]; omega)]; simpa using hu
    | succ j =>
      rw [List.getElem?_append_right (by simp [guCells]; omega)]
      have := ih (j := j) (by simpa using h)
      simp only [guCells, List.length_cons, List.length_nil]
      rw [show (j + 1) * 8 + i - (0 + 1 + 1 + 1 + 1 + 1 + 1 + 1 + 1) = j * 8 + i by omega]
      exact this
theorem row_gu {w : World} {base : Nat} {v : Value} {gs : List Gu} (h : w.ownsRow base 84 8 v gs.length (guRow gs)) : GuAt w v gs := by
  have h' := h
  rcases h.2 with ⟨rfl, hn⟩ | ⟨g, cap, cur, rfl, _, hg, hle, hm, hs, ht⟩
  · refine ⟨⟨none, 0, by rw [hn]⟩, fun j g hj => ?_⟩
    have hl : gs = [] := List.length_eq_zero_iff.1 hn
    subst hl; simp at hj
  · refine ⟨⟨_, _, rfl⟩, fun j gu hj => ⟨g, cap, rfl, (Array.getElem?_eq_some_iff.1 hg).1, fun i u hu => ?_⟩⟩
    have hi : i < 8 := by have := (List.getElem?_eq_some_iff.1 hu).1; simpa [guCells] using this
    have hj' : j < gs.length := (List.getElem?_eq_some_iff.1 hj).1
    rw [(row_low h').cellAt _ (by omega)]
    exact guRow_at hj hu
theorem GuAt.below {w w' : World} {v : Value} {gs : List Gu} (h : GuAt w v gs) (hB : Below w.heap.size w w') : GuAt w' v gs :=
  ⟨h.1, fun j g hj => by
    obtain ⟨q, c, h1, h2, h3⟩ := h.2 j g hj
    exact ⟨q, c, h1, Nat.lt_of_lt_of_le h2 hB.size, fun i u hu => (hB.cell (p := ⟨q, j * 8 + i, none⟩) h2).trans (h3 i u hu)⟩⟩

set_option maxRecDepth 100000 in
set_option maxHeartbeats 4000000 in
theorem sameGuilt_at (v1 v2 : Value) (gs : List Gu) (w : World) (h1 : GuAt w v1 gs) (h2 : GuAt w v2 gs) (hl : gs.length ≤ 12) :
    Calls Tryz.prog 78 #[v1, v2] w fun e w' => e = .returned (.bool true) ∧ Below w.heap.size w w' := by
  obtain ⟨⟨p1, c1, rfl⟩, g1⟩ := h1
  obtain ⟨⟨p2, c2, rfl⟩, g2⟩ := h2
  go_enter Tryz.func78, Tryz.ntmps78
  go_wp2
  have G1 : Hid _ := g1
  have G2 : Hid _ := g2
  clear g1 g2
  go_loopw [5] (fun i wr => ∃ j : Nat, j ≤ gs.length ∧ i = .int .i64 j ∧ Below w.heap.size w wr) (fun i _ => gs.length - (intOf i).toNat)
  case atStart => exact ⟨0, by omega, rfl, Below.refl _ _⟩
  case round =>
    obtain ⟨j, hj, rfl, hB⟩ := hrel
    have hz := hB.size
    by_cases hlt : j < gs.length
    · have hlt' : (j : Int) < (gs.length : Int) := by omega
      obtain ⟨g, hg⟩ : ∃ g, gs[j]? = some g := ⟨_, List.getElem?_eq_getElem hlt⟩
      obtain ⟨q1, d1, e1, l1, a1⟩ := G1.out j g hg
      obtain ⟨q2, d2, e2, l2, a2⟩ := G2.out j g hg
      simp only [Value.slice.injEq, true_and] at e1 e2
      obtain ⟨rfl, rfl⟩ := e1
      obtain ⟨rfl, rfl⟩ := e2
      have k1 : ∀ (W : World), Below w.heap.size w W → (W.cell? ⟨q1, j * 8, none⟩ = some (I64 g.v) ∧ W.cell? ⟨q1, j * 8 + 1, none⟩ = some (I64 g.k)) ∧ (W.cell? ⟨q1, j * 8 + 2, none⟩ = some (I64 g.a.v) ∧ W.cell? ⟨q1, j * 8 + 3, none⟩ = some (I64 g.a.s) ∧ W.cell? ⟨q1, j * 8 + 4, none⟩ = some (I64 g.a.t)) ∧ (W.cell? ⟨q1, j * 8 + 5, none⟩ = some (I64 g.b.v) ∧ W.cell? ⟨q1, j * 8 + 6, none⟩ = some (I64 g.b.s) ∧ W.cell? ⟨q1, j * 8 + 7, none⟩ = some (I64 g.b.t)) := fun W hW =>
        ⟨⟨(hW.cell (p := ⟨q1, j * 8, none⟩) l1).trans (a1 0 _ rfl), (hW.cell (p := ⟨q1, j * 8 + 1, none⟩) l1).trans (a1 1 _ rfl)⟩, ⟨(hW.cell (p := ⟨q1, j * 8 + 2, none⟩) l1).trans (a1 2 _ rfl), (hW.cell (p := ⟨q1, j * 8 + 3, none⟩) l1).trans (a1 3 _ rfl), (hW.cell (p := ⟨q1, j * 8 + 4, none⟩) l1).trans (a1 4 _ rfl)⟩, (hW.cell (p := ⟨q1, j * 8 + 5, none⟩) l1).trans (a1 5 _ rfl), (hW.cell (p := ⟨q1, j * 8 + 6, none⟩) l1).trans (a1 6 _ rfl), (hW.cell (p := ⟨q1, j * 8 + 7, none⟩) l1).trans (a1 7 _ rfl)⟩
      have k2 : ∀ (W : World), Below w.heap.size w W → (W.cell? ⟨q2, j * 8, none⟩ = some (I64 g.v) ∧ W.cell? ⟨q2, j * 8 + 1, none⟩ = some (I64 g.k)) ∧ (W.cell? ⟨q2, j * 8 + 2, none⟩ = some (I64 g.a.v) ∧ W.cell? ⟨q2, j * 8 + 3, none⟩ = some (I64 g.a.s) ∧ W.cell? ⟨q2, j * 8 + 4, none⟩ = some (I64 g.a.t)) ∧ (W.cell? ⟨q2, j * 8 + 5, none⟩ = some (I64 g.b.v) ∧ W.cell? ⟨q2, j * 8 + 6, none⟩ = some (I64 g.b.s) ∧ W.cell? ⟨q2, j * 8 + 7, none⟩ = some (I64 g.b.t)) := fun W hW =>
        ⟨⟨(hW.cell (p := ⟨q2, j * 8, none⟩) l2).trans (a2 0 _ rfl), (hW.cell (p := ⟨q2, j * 8 + 1, none⟩) l2).trans (a2 1 _ rfl)⟩, ⟨(hW.cell (p := ⟨q2, j * 8 + 2, none⟩) l2).trans (a2 2 _ rfl), (hW.cell (p := ⟨q2, j * 8 + 3, none⟩) l2).trans (a2 3 _ rfl), (hW.cell (p := ⟨q2, j * 8 + 4, none⟩) l2).trans (a2 4 _ rfl)⟩, (hW.cell (p := ⟨q2, j * 8 + 5, none⟩) l2).trans (a2 5 _ rfl), (hW.cell (p := ⟨q2, j * 8 + 6, none⟩) l2).trans (a2 6 _ rfl), (hW.cell (p := ⟨q2, j * 8 + 7, none⟩) l2).trans (a2 7 _ rfl)⟩
      have KK1 : Hid _ := k1
      have KK2 : Hid _ := k2
      clear k1 k2 a1 a2 hg
      obtain ⟨_, ⟨s0, s1, s2⟩, _⟩ := KK1.out wr hB
      obtain ⟨_, ⟨t0, t1, t2⟩, _⟩ := KK2.out wr hB
      go_wp2_with fail
      refine wp_region_held_drew (S := fun w' => (w'.cell? ⟨q1, j * 8 + 2, none⟩ = some (I64 g.a.v) ∧ w'.cell? ⟨q1, j * 8 + 3, none⟩ = some (I64 g.a.s) ∧ w'.cell? ⟨q1, j * 8 + 4, none⟩ = some (I64 g.a.t)) ∧ (w'.cell? ⟨q2, j * 8 + 2, none⟩ = some (I64 g.a.v) ∧ w'.cell? ⟨q2, j * 8 + 3, none⟩ = some (I64 g.a.s) ∧ w'.cell? ⟨q2, j * 8 + 4, none⟩ = some (I64 g.a.t))) (by kernel_rfl) ⟨⟨s0, s1, s2⟩, t0, t1, t2⟩ (fun hHeld => ?_)
      refine takeH (i := 0) (v := ?vv1) rfl (by kernel_rfl) (by kernel_rfl) (by kernel_rfl) (fun _ _ _ h => h) (Or.inl ⟨by rfl, ?hy1⟩) (by assumption) ?rest1
      case hy1 => (intro w hSw; (try dsimp only at hSw); go_simp; try with_reducible rfl)
      try simp only [Act.put, List.setIfInBounds_toArray, List.set_cons_zero, List.set_cons_succ]
      refine takeH (i := 1) (v := ?vv2) rfl (by kernel_rfl) (by kernel_rfl) (by kernel_rfl) (fun _ _ _ h => h) (Or.inl ⟨by rfl, ?hy2⟩) (by assumption) ?rest2
      case hy2 => (intro w hSw; (try dsimp only at hSw); go_simp; try with_reducible rfl)
      try simp only [Act.put, List.setIfInBounds_toArray, List.set_cons_zero, List.set_cons_succ]
      refine takeH (i := 2) (v := ?vv3) rfl (by kernel_rfl) (by kernel_rfl) (by kernel_rfl) (fun _ _ _ h => h) (Or.inl ⟨by rfl, ?hy3⟩) (by assumption) ?rest3
      case hy3 => (intro w hSw; (try dsimp only at hSw); go_simp; try with_reducible rfl)
      try simp only [Act.put, List.setIfInBounds_toArray, List.set_cons_zero, List.set_cons_succ]
      refine takeH (i := 3) (v := ?vv4) rfl (by kernel_rfl) (by kernel_rfl) (by kernel_rfl) (fun _ _ _ h => h) (Or.inl ⟨by rfl, ?hy4⟩) (by assumption) ?rest4
      case hy4 => (intro w hSw; (try dsimp only at hSw); go_simp; try with_reducible rfl)
      try simp only [Act.put, List.setIfInBounds_toArray, List.set_cons_zero, List.set_cons_succ]
      refine takeH (i := 4) (v := ?vv5) rfl (by kernel_rfl) (by kernel_rfl) (by kernel_rfl) (fun _ _ _ h => h) (Or.inl ⟨by rfl, ?hy5⟩) (by assumption) ?rest5
      case hy5 => (intro w hSw; (try dsimp only at hSw); go_simp; try with_reducible rfl)
      try simp only [Act.put, List.setIfInBounds_toArray, List.set_cons_zero, List.set_cons_succ]
      refine takeH (i := 5) (v := ?vv6) rfl (by kernel_rfl) (by kernel_rfl) (by kernel_rfl) (fun _ _ _ h => h) (Or.inl ⟨by rfl, ?hy6⟩) (by assumption) ?rest6
      case hy6 => (intro w hSw; (try dsimp only at hSw); go_simp; try with_reducible rfl)
      try simp only [Act.put, List.setIfInBounds_toArray, List.set_cons_zero, List.set_cons_succ]
      refine takeH (i := 6) (v := ?vv7) rfl (by kernel_rfl) (by kernel_rfl) (by kernel_rfl) (fun _ _ _ h => h) (Or.inl ⟨by rfl, ?hy7⟩) (by assumption) ?rest7
      case hy7 => (intro w hSw; (try dsimp only at hSw); go_simp; try with_reducible rfl)
      try simp only [Act.put, List.setIfInBounds_toArray, List.set_cons_zero, List.set_cons_succ]
      refine takeH (i := 7) (v := ?vv8) rfl (by kernel_rfl) (by kernel_rfl) (by kernel_rfl) (fun _ _ _ h => h) (Or.inl ⟨by rfl, ?hy8⟩) (by assumption) ?rest8
      case hy8 => (intro w hSw; (try dsimp only at hSw); go_simp; try with_reducible rfl)
      try simp only [Act.put, List.setIfInBounds_toArray, List.set_cons_zero, List.set_cons_succ]
      refine takeH (i := 8) (v := ?vv9) rfl (by kernel_rfl) (by kernel_rfl) (by kernel_rfl) (fun _ _ _ h => h) (Or.inl ⟨by rfl, ?hy9⟩) (by assumption) ?rest9
      case hy9 => (intro w hSw; (try dsimp only at hSw); go_simp; try with_reducible rfl)
      try simp only [Act.put, List.setIfInBounds_toArray, List.set_cons_zero, List.set_cons_succ]
      refine takeH (i := 9) (v := ?vv10) rfl (by kernel_rfl) (by kernel_rfl) (by kernel_rfl) (fun _ _ _ h => h) (Or.inl ⟨by rfl, ?hy10⟩) (by assumption) ?rest10
      case hy10 => (intro w hSw; (try dsimp only at hSw); go_simp; try with_reducible rfl)
      try simp only [Act.put, List.setIfInBounds_toArray, List.set_cons_zero, List.set_cons_succ]
      refine doneH (i := 10) rfl (by kernel_rfl) (by rfl) (fun K hK => ?_)
      have HK : Hid _ := hK
      clear hK
      go_simp
      refine (sameVotesL_at g.a _).mono ?_
      rintro e W1 ⟨rfl, hBW1⟩
      have hBW1 : Below wr.heap.size wr W1 := (Below.refl wr.heap.size wr).drew.trans hBW1
      clear hHeld
      have hC1 : Below w.heap.size w W1 := hB.trans (hBW1.mono hz)
      clear s0 s1 s2 t0 t1 t2
      obtain ⟨_, ⟨s0, s1, s2⟩, ⟨s3, s4, s5⟩⟩ := KK1.out W1 hC1
      obtain ⟨_, ⟨t0, t1, t2⟩, ⟨t3, t4, t5⟩⟩ := KK2.out W1 hC1
      refine HK.out _ _ ⟨⟨s0, s1, s2⟩, t0, t1, t2⟩ (fun hHeld => ?_)
      clear HK K
      try simp only [Act.put, List.setIfInBounds_toArray, List.set_cons_zero, List.set_cons_succ]
      refine takeH (i := 11) (v := ?vv11) rfl (by kernel_rfl) (by kernel_rfl) (by kernel_rfl) (fun _ _ _ h => h) (Or.inl ⟨by rfl, ?hy11⟩) (by assumption) ?rest11
      case hy11 => (intro w hSw; (try dsimp only at hSw); go_simp; try with_reducible rfl)
      try simp only [Act.put, List.setIfInBounds_toArray, List.set_cons_zero, List.set_cons_succ]
      clear hHeld s0 s1 s2 t0 t1 t2
      refine wpAnyH_done (by kernel_rfl) ?_ _
      go_wp2_with fail
      refine wp_region_held_drew (S := fun w' => (w'.cell? ⟨q1, j * 8 + 5, none⟩ = some (I64 g.b.v) ∧ w'.cell? ⟨q1, j * 8 + 6, none⟩ = some (I64 g.b.s) ∧ w'.cell? ⟨q1, j * 8 + 7, none⟩ = some (I64 g.b.t)) ∧ (w'.cell? ⟨q2, j * 8 + 5, none⟩ = some (I64 g.b.v) ∧ w'.cell? ⟨q2, j * 8 + 6, none⟩ = some (I64 g.b.s) ∧ w'.cell? ⟨q2, j * 8 + 7, none⟩ = some (I64 g.b.t))) (by kernel_rfl) ⟨⟨s3, s4, s5⟩, t3, t4, t5⟩ (fun hHeld => ?_)
      refine takeH (i := 0) (v := ?vv12) rfl (by kernel_rfl) (by kernel_rfl) (by kernel_rfl) (fun _ _ _ h => h) (Or.inl ⟨by rfl, ?hy12⟩) (by assumption) ?rest12
      case hy12 => (intro w hSw; (try dsimp only at hSw); go_simp; try with_reducible rfl)
      try simp only [Act.put, List.setIfInBounds_toArray, List.set_cons_zero, List.set_cons_succ]
      refine takeH (i := 1) (v := ?vv13) rfl (by kernel_rfl) (by kernel_rfl) (by kernel_rfl) (fun _ _ _ h => h) (Or.inl ⟨by rfl, ?hy13⟩) (by assumption) ?rest13
      case hy13 => (intro w hSw; (try dsimp only at hSw); go_simp; try with_reducible rfl)
      try simp only [Act.put, List.setIfInBounds_toArray, List.set_cons_zero, List.set_cons_succ]
      refine takeH (i := 2) (v := ?vv14) rfl (by kernel_rfl) (by kernel_rfl) (by kernel_rfl) (fun _ _ _ h => h) (Or.inl ⟨by rfl, ?hy14⟩) (by assumption) ?rest14
      case hy14 => (intro w hSw; (try dsimp only at hSw); go_simp; try with_reducible rfl)
      try simp only [Act.put, List.setIfInBounds_toArray, List.set_cons_zero, List.set_cons_succ]
      refine takeH (i := 3) (v := ?vv15) rfl (by kernel_rfl) (by kernel_rfl) (by kernel_rfl) (fun _ _ _ h => h) (Or.inl ⟨by rfl, ?hy15⟩) (by assumption) ?rest15
      case hy15 => (intro w hSw; (try dsimp only at hSw); go_simp; try with_reducible rfl)
      try simp only [Act.put, List.setIfInBounds_toArray, List.set_cons_zero, List.set_cons_succ]
      refine takeH (i := 4) (v := ?vv16) rfl (by kernel_rfl) (by kernel_rfl) (by kernel_rfl) (fun _ _ _ h => h) (Or.inl ⟨by rfl, ?hy16⟩) (by assumption) ?rest16
      case hy16 => (intro w hSw; (try dsimp only at hSw); go_simp; try with_reducible rfl)
      try simp only [Act.put, List.setIfInBounds_toArray, List.set_cons_zero, List.set_cons_succ]
      refine takeH (i := 5) (v := ?vv17) rfl (by kernel_rfl) (by kernel_rfl) (by kernel_rfl) (fun _ _ _ h => h) (Or.inl ⟨by rfl, ?hy17⟩) (by assumption) ?rest17
      case hy17 => (intro w hSw; (try dsimp only at hSw); go_simp; try with_reducible rfl)
      try simp only [Act.put, List.setIfInBounds_toArray, List.set_cons_zero, List.set_cons_succ]
      refine takeH (i := 6) (v := ?vv18) rfl (by kernel_rfl) (by kernel_rfl) (by kernel_rfl) (fun _ _ _ h => h) (Or.inl ⟨by rfl, ?hy18⟩) (by assumption) ?rest18
      case hy18 => (intro w hSw; (try dsimp only at hSw); go_simp; try with_reducible rfl)
      try simp only [Act.put, List.setIfInBounds_toArray, List.set_cons_zero, List.set_cons_succ]
      refine takeH (i := 7) (v := ?vv19) rfl (by kernel_rfl) (by kernel_rfl) (by kernel_rfl) (fun _ _ _ h => h) (Or.inl ⟨by rfl, ?hy19⟩) (by assumption) ?rest19
      case hy19 => (intro w hSw; (try dsimp only at hSw); go_simp; try with_reducible rfl)
      try simp only [Act.put, List.setIfInBounds_toArray, List.set_cons_zero, List.set_cons_succ]
      refine takeH (i := 8) (v := ?vv20) rfl (by kernel_rfl) (by kernel_rfl) (by kernel_rfl) (fun _ _ _ h => h) (Or.inl ⟨by rfl, ?hy20⟩) (by assumption) ?rest20
      case hy20 => (intro w hSw; (try dsimp only at hSw); go_simp; try with_reducible rfl)
      try simp only [Act.put, List.setIfInBounds_toArray, List.set_cons_zero, List.set_cons_succ]
      refine takeH (i := 9) (v := ?vv21) rfl (by kernel_rfl) (by kernel_rfl) (by kernel_rfl) (fun _ _ _ h => h) (Or.inl ⟨by rfl, ?hy21⟩) (by assumption) ?rest21
      case hy21 => (intro w hSw; (try dsimp only at hSw); go_simp; try with_reducible rfl)
      try simp only [Act.put, List.setIfInBounds_toArray, List.set_cons_zero, List.set_cons_succ]
      refine doneH (i := 10) rfl (by kernel_rfl) (by rfl) (fun K hK => ?_)
      have HK : Hid _ := hK
      clear hK
      go_simp
      refine (sameVotesL_at g.b _).mono ?_
      rintro e W2 ⟨rfl, hBW2⟩
      have hBW2 : Below W1.heap.size W1 W2 := (Below.refl W1.heap.size W1).drew.trans hBW2
      clear hHeld
      have hC2 : Below w.heap.size w W2 := hC1.trans (hBW2.mono hC1.size)
      clear s3 s4 s5 t3 t4 t5
      obtain ⟨⟨u0, u1⟩, _, ⟨s3, s4, s5⟩⟩ := KK1.out W2 hC2
      obtain ⟨⟨v0, v1⟩, _, ⟨t3, t4, t5⟩⟩ := KK2.out W2 hC2
      refine HK.out _ _ ⟨⟨s3, s4, s5⟩, t3, t4, t5⟩ (fun hHeld => ?_)
      clear HK K
      try simp only [Act.put, List.setIfInBounds_toArray, List.set_cons_zero, List.set_cons_succ]
      refine takeH (i := 11) (v := ?vv22) rfl (by kernel_rfl) (by kernel_rfl) (by kernel_rfl) (fun _ _ _ h => h) (Or.inl ⟨by rfl, ?hy22⟩) (by assumption) ?rest22
      case hy22 => (intro w hSw; (try dsimp only at hSw); go_simp; try with_reducible rfl)
      try simp only [Act.put, List.setIfInBounds_toArray, List.set_cons_zero, List.set_cons_succ]
      clear hHeld s3 s4 s5 t3 t4 t5
      refine wpAnyH_done (by kernel_rfl) ?_ _
      have n1 : (g.v != g.v) = false := by simp
      have n2 : (g.k != g.k) = false := by simp
      go_wp2_with fail
      go_quiet (fail)
      go_wp2
      go_roundw
      case rel => exact ⟨j + 1, by omega, by go_num, below_drewN hC2 _⟩
      case measure => simp [intOf]; omega
    · go_wp2
      go_ret
      exact ⟨rfl, hB⟩

set_option maxRecDepth 100000 in
set_option maxHeartbeats 2000000 in
theorem guiltyLaw_at (Pr : Nat → Prop) (x : Nat) (ws ps : List Int) (vs : List Vt) (w : World) (h : Both w Pr x ws ps vs) :
    Calls Tryz.prog 47 #[.pointer (some ⟨x, 0, none⟩)] w fun e w' => (∃ v, e = .returned (.tuple #[v, .bool true]) ∧ w'.ownsRow w.heap.size 84 8 v (guiltL ws.length ps vs).length (guRow (guiltL ws.length ps vs))) ∧ Both w' Pr x ws ps vs ∧ Chg (fun k => ¬ Pr k) w w' := by
  obtain ⟨b, rb, S, R, hb⟩ := h
  obtain ⟨wv, pv, vv, hC⟩ := hb.court
  have hW := okWs_of hb.okw
  have hx0 := hb.x0
  have hjl := guiltL_length ws.length ps vs
  have hw12 := hW.le
  go_enter Tryz.func47, Tryz.ntmps47
  go_wp2_with fail
  refine (guilty_at b S ws ps vs wv pv vv _ hC hb.T hW hb.len hb.okv).mono ?_
  rintro e w1 ⟨⟨v, rfl, hrow⟩, hC1, hc1⟩
  have hb1 := hb.same hC1 hc1
  have hx1 := hb1.x1
  obtain ⟨_, _, _, hR1⟩ := hb1.doc
  clear hx0
  go_wp2_with fail
  refine (refGuilty_at rb R ws ps vs _ _ _ _ hR1 hb.T hW hb.len hb.okv).mono ?_
  rintro e w2 ⟨⟨v2, rfl, hrow2⟩, hB2⟩
  have hrow1 := row_below hrow hB2 (Nat.le_refl _)
  have hb2 := hb1.kept hB2
  have hcw : Chg (fun k => ¬ Pr k) w w2 := (hc1.mono (fun k _ hk => hb.lowS k hk)).trans (Chg.of_below _ hB2)
  have hg1 := row_gu hrow1
  have hg2 := row_gu hrow2
  clear hx1 hrow hrow2
  go_wp2_with fail
  refine (sameGuilt_at v v2 (guiltL ws.length ps vs) _ hg1 hg2 (by omega)).mono ?_
  rintro e w3 ⟨rfl, hBd⟩
  go_wp2
  go_ret2
  exact ⟨⟨_, rfl, row_below hrow1 hBd (Nat.le_refl _)⟩, ⟨b, rb, S, R, hb2.kept hBd⟩, hcw.trans (Chg.of_below _ hBd)⟩
end Go.Proofs.YtgebcnnenhgkcaaGreat
