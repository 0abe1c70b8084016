/- The statements' own look at two lists of guilty (for the seat without VotesB). -/
import Derived.Test.YtgebcnnenhgkcaaGuiltA
import Derived.Test.YtgebcnnenhgkcaaIntsA
namespace Go.Proofs.Ytgebcnnenhgkcaa
open Go.RowKit

theorem sameVotesL_at (x : Vt) (w : World) :
    Calls Try.prog 52 #[x.val, x.val] w fun e w' => e = .returned (.bool true) ∧ Below w.heap.size w w' := by
  go_enter Try.func52, Try.ntmps52
  go_wp2
  go_ret
  exact ⟨rfl, ((Below.refl _ w).alloc (Nat.le_refl _) _).alloc (by simp) _⟩

/-- A list of guilt in memory. -/
def GuAt (w : World) (v : Value) (gs : List Gu) : Prop := (∃ p c, v = .slice p gs.length c) ∧ ∀ j g, gs[j]? = some g → ∃ q c, v = .slice (some ⟨q, 0, none⟩) gs.length c ∧ q < w.heap.size ∧ ∀ i u, (guCells g)[i]? = some u → w.cell? ⟨q, j * 8 + i, none⟩ = some u
theorem guRow_length (gs : List Gu) : (guRow gs).length = gs.length * 8 := by
  induction gs with
  | nil => rfl
  | cons g r ih => simp [guRow, guCells] at *; omega
theorem guRow_at {gs : List Gu} {j : Nat} {g : Gu} (h : gs[j]? = some g) {i : Nat} {u : Value} (hu : (guCells g)[i]? = some u) : (guRow gs)[j * 8 + i]? = some u := by
  induction gs generalizing j with
  | nil => simp at h
  | cons a r ih =>
    have e : guRow (a :: r) = guCells a ++ guRow r := by simp [guRow]
    have hi : i < 8 := by have := (List.getElem?_eq_some_iff.1 hu).1; simpa [guCells] using this
    rw [e]
    cases j with
    | zero =>
      simp at h; subst h
      rw [List.getElem?_append_left (by simp [guCells]; omega)]; simpa using hu
    | succ j =>
      rw [List.getElem?_append_right (by simp [guCells]; omega)]
      have := ih (j := j) (by simpa using h)
      simp only [guCells, List.length_cons, List.length_nil]
      rw [show (j + 1) * 8 + i - (0 + 1 + 1 + 1 + 1 + 1 + 1 + 1 + 1) = j * 8 + i by omega]
      exact this
theorem row_gu {w : World} {base : Nat} {v : Value} {gs : List Gu} (h : w.ownsRow base 73 8 v gs.length (guRow gs)) : GuAt w v gs := by
  have h' := h
  rcases h.2 with ⟨rfl, hn⟩ | ⟨g, cap, cur, rfl, _, hg, hle, hm, hs, ht⟩
  · refine ⟨⟨none, 0, by rw [hn]⟩, fun j g hj => ?_⟩
    have hl : gs = [] := List.length_eq_zero_iff.1 hn
    subst hl; simp at hj
  · refine ⟨⟨_, _, rfl⟩, fun j gu hj => ⟨g, cap, rfl, (Array.getElem?_eq_some_iff.1 hg).1, fun i u hu => ?_⟩⟩
    have hi : i < 8 := by have := (List.getElem?_eq_some_iff.1 hu).1; simpa [guCells] using this
    have hj' : j < gs.length := (List.getElem?_eq_some_iff.1 hj).1
    rw [(row_low h').cellAt _ (by omega)]
    exact guRow_at hj hu
theorem GuAt.below {w w' : World} {v : Value} {gs : List Gu} (h : GuAt w v gs) (hB : Below w.heap.size w w') : GuAt w' v gs :=
  ⟨h.1, fun j g hj => by
    obtain ⟨q, c, h1, h2, h3⟩ := h.2 j g hj
    exact ⟨q, c, h1, Nat.lt_of_lt_of_le h2 hB.size, fun i u hu => (hB.cell (p := ⟨q, j * 8 + i, none⟩) h2).trans (h3 i u hu)⟩⟩

set_option maxRecDepth 100000 in
set_option maxHeartbeats 4000000 in
theorem sameGuilt_at (v1 v2 : Value) (gs : List Gu) (w : World) (h1 : GuAt w v1 gs) (h2 : GuAt w v2 gs) (hl : gs.length ≤ 12) :
    Calls Try.prog 28 #[v1, v2] w fun e w' => e = .returned (.bool true) ∧ Below w.heap.size w w' := by
  obtain ⟨⟨p1, c1, rfl⟩, g1⟩ := h1
  obtain ⟨⟨p2, c2, rfl⟩, g2⟩ := h2
  go_enter Try.func28, Try.ntmps28
  go_wp2
  have G1 : Hid _ := g1
  have G2 : Hid _ := g2
  clear g1 g2
  go_loopw [5] (fun i wr => ∃ j : Nat, j ≤ gs.length ∧ i = .int .i64 j ∧ Below w.heap.size w wr) (fun i _ => gs.length - (intOf i).toNat)
  case atStart => exact ⟨0, by omega, rfl, Below.refl _ _⟩
  case round =>
    obtain ⟨j, hj, rfl, hB⟩ := hrel
    have hz := hB.size
    by_cases hlt : j < gs.length
    · have hlt' : (j : Int) < (gs.length : Int) := by omega
      obtain ⟨g, hg⟩ : ∃ g, gs[j]? = some g := ⟨_, List.getElem?_eq_getElem hlt⟩
      obtain ⟨q1, d1, e1, l1, a1⟩ := G1.out j g hg
      obtain ⟨q2, d2, e2, l2, a2⟩ := G2.out j g hg
      simp only [Value.slice.injEq, true_and] at e1 e2
      obtain ⟨rfl, rfl⟩ := e1
      obtain ⟨rfl, rfl⟩ := e2
      have k1 : ∀ (W : World), Below w.heap.size w W → (W.cell? ⟨q1, j * 8, none⟩ = some (I64 g.v) ∧ W.cell? ⟨q1, j * 8 + 1, none⟩ = some (I64 g.k)) ∧ (W.cell? ⟨q1, j * 8 + 2, none⟩ = some (I64 g.a.v) ∧ W.cell? ⟨q1, j * 8 + 3, none⟩ = some (I64 g.a.s) ∧ W.cell? ⟨q1, j * 8 + 4, none⟩ = some (I64 g.a.t)) ∧ (W.cell? ⟨q1, j * 8 + 5, none⟩ = some (I64 g.b.v) ∧ W.cell? ⟨q1, j * 8 + 6, none⟩ = some (I64 g.b.s) ∧ W.cell? ⟨q1, j * 8 + 7, none⟩ = some (I64 g.b.t)) := fun W hW =>
        ⟨⟨(hW.cell (p := ⟨q1, j * 8, none⟩) l1).trans (a1 0 _ rfl), (hW.cell (p := ⟨q1, j * 8 + 1, none⟩) l1).trans (a1 1 _ rfl)⟩, ⟨(hW.cell (p := ⟨q1, j * 8 + 2, none⟩) l1).trans (a1 2 _ rfl), (hW.cell (p := ⟨q1, j * 8 + 3, none⟩) l1).trans (a1 3 _ rfl), (hW.cell (p := ⟨q1, j * 8 + 4, none⟩) l1).trans (a1 4 _ rfl)⟩, (hW.cell (p := ⟨q1, j * 8 + 5, none⟩) l1).trans (a1 5 _ rfl), (hW.cell (p := ⟨q1, j * 8 + 6, none⟩) l1).trans (a1 6 _ rfl), (hW.cell (p := ⟨q1, j * 8 + 7, none⟩) l1).trans (a1 7 _ rfl)⟩
      have k2 : ∀ (W : World), Below w.heap.size w W → (W.cell? ⟨q2, j * 8, none⟩ = some (I64 g.v) ∧ W.cell? ⟨q2, j * 8 + 1, none⟩ = some (I64 g.k)) ∧ (W.cell? ⟨q2, j * 8 + 2, none⟩ = some (I64 g.a.v) ∧ W.cell? ⟨q2, j * 8 + 3, none⟩ = some (I64 g.a.s) ∧ W.cell? ⟨q2, j * 8 + 4, none⟩ = some (I64 g.a.t)) ∧ (W.cell? ⟨q2, j * 8 + 5, none⟩ = some (I64 g.b.v) ∧ W.cell? ⟨q2, j * 8 + 6, none⟩ = some (I64 g.b.s) ∧ W.cell? ⟨q2, j * 8 + 7, none⟩ = some (I64 g.b.t)) := fun W hW =>
        ⟨⟨(hW.cell (p := ⟨q2, j * 8, none⟩) l2).trans (a2 0 _ rfl), (hW.cell (p := ⟨q2, j * 8 + 1, none⟩) l2).trans (a2 1 _ rfl)⟩, ⟨(hW.cell (p := ⟨q2, j * 8 + 2, none⟩) l2).trans (a2 2 _ rfl), (hW.cell (p := ⟨q2, j * 8 + 3, none⟩) l2).trans (a2 3 _ rfl), (hW.cell (p := ⟨q2, j * 8 + 4, none⟩) l2).trans (a2 4 _ rfl)⟩, (hW.cell (p := ⟨q2, j * 8 + 5, none⟩) l2).trans (a2 5 _ rfl), (hW.cell (p := ⟨q2, j * 8 + 6, none⟩) l2).trans (a2 6 _ rfl), (hW.cell (p := ⟨q2, j * 8 + 7, none⟩) l2).trans (a2 7 _ rfl)⟩
      have KK1 : Hid _ := k1
      have KK2 : Hid _ := k2
      clear k1 k2 a1 a2 hg
      obtain ⟨_, ⟨s0, s1, s2⟩, _⟩ := KK1.out wr hB
      obtain ⟨_, ⟨t0, t1, t2⟩, _⟩ := KK2.out wr hB
      go_wp2_with fail
      refine wp_region_held_drew (S := fun w' => (w'.cell? ⟨q1, j * 8 + 2, none⟩ = some (I64 g.a.v) ∧ w'.cell? ⟨q1, j * 8 + 3, none⟩ = some (I64 g.a.s) ∧ w'.cell? ⟨q1, j * 8 + 4, none⟩ = some (I64 g.a.t)) ∧ (w'.cell? ⟨q2, j * 8 + 2, none⟩ = some (I64 g.a.v) ∧ w'.cell? ⟨q2, j * 8 + 3, none⟩ = some (I64 g.a.s) ∧ w'.cell? ⟨q2, j * 8 + 4, none⟩ = some (I64 g.a.t))) (by kernel_rfl) ⟨⟨s0, s1, s2⟩, t0, t1, t2⟩ (fun hHeld => ?_)
      refine takeH (i := 0) (v := ?vv1) rfl (by kernel_rfl) (by kernel_rfl) (by kernel_rfl) (fun _ _ _ h => h) (Or.inl ⟨by rfl, ?hy1⟩) (by assumption) ?rest1
      case hy1 => (intro w hSw; (try dsimp only at hSw); go_simp; try with_reducible rfl)
      try simp only [Act.put, List.setIfInBounds_toArray, List.set_cons_zero, List.set_cons_succ]
      refine takeH (i := 1) (v := ?vv2) rfl (by kernel_rfl) (by kernel_rfl) (by kernel_rfl) (fun _ _ _ h => h) (Or.inl ⟨by rfl, ?hy2⟩) (by assumption) ?rest2
      case hy2 => (intro w hSw; (try dsimp only at hSw); go_simp; try with_reducible rfl)
      try simp only [Act.put, List.setIfInBounds_toArray, List.set_cons_zero, List.set_cons_succ]
      refine takeH (i := 2) (v := ?vv3) rfl (by kernel_rfl) (by kernel_rfl) (by kernel_rfl) (fun _ _ _ h => h) (Or.inl ⟨by rfl, ?hy3⟩) (by assumption) ?rest3
      case hy3 => (intro w hSw; (try dsimp only at hSw); go_simp; try with_reducible rfl)
      try simp only [Act.put, List.setIfInBounds_toArray, List.set_cons_zero, List.set_cons_succ]
      refine takeH (i := 3) (v := ?vv4) rfl (by kernel_rfl) (by kernel_rfl) (by kernel_rfl) (fun _ _ _ h => h) (Or.inl ⟨by rfl, ?hy4⟩) (by assumption) ?rest4
      case hy4 => (intro w hSw; (try dsimp only at hSw); go_simp; try with_reducible rfl)
      try simp only [Act.put, List.setIfInBounds_toArray, List.set_cons_zero, List.set_cons_succ]
      refine takeH (i := 4) (v := ?vv5) rfl (by kernel_rfl) (by kernel_rfl) (by kernel_rfl) (fun _ _ _ h => h) (Or.inl ⟨by rfl, ?hy5⟩) (by assumption) ?rest5
      case hy5 => (intro w hSw; (try dsimp only at hSw); go_simp; try with_reducible rfl)
      try simp only [Act.put, List.setIfInBounds_toArray, List.set_cons_zero, List.set_cons_succ]
      refine takeH (i := 5) (v := ?vv6) rfl (by kernel_rfl) (by kernel_rfl) (by kernel_rfl) (fun _ _ _ h => h) (Or.inl ⟨by rfl, ?hy6⟩) (by assumption) ?rest6
      case hy6 => (intro w hSw; (try dsimp only at hSw); go_simp; try with_reducible rfl)
      try simp only [Act.put, List.setIfInBounds_toArray, List.set_cons_zero, List.set_cons_succ]
      refine takeH (i := 6) (v := ?vv7) rfl (by kernel_rfl) (by kernel_rfl) (by kernel_rfl) (fun _ _ _ h => h) (Or.inl ⟨by rfl, ?hy7⟩) (by assumption) ?rest7
      case hy7 => (intro w hSw; (try dsimp only at hSw); go_simp; try with_reducible rfl)
      try simp only [Act.put, List.setIfInBounds_toArray, List.set_cons_zero, List.set_cons_succ]
      refine takeH (i := 7) (v := ?vv8) rfl (by kernel_rfl) (by kernel_rfl) (by kernel_rfl) (fun _ _ _ h => h) (Or.inl ⟨by rfl, ?hy8⟩) (by assumption) ?rest8
      case hy8 => (intro w hSw; (try dsimp only at hSw); go_simp; try with_reducible rfl)
      try simp only [Act.put, List.setIfInBounds_toArray, List.set_cons_zero, List.set_cons_succ]
      refine takeH (i := 8) (v := ?vv9) rfl (by kernel_rfl) (by kernel_rfl) (by kernel_rfl) (fun _ _ _ h => h) (Or.inl ⟨by rfl, ?hy9⟩) (by assumption) ?rest9
      case hy9 => (intro w hSw; (try dsimp only at hSw); go_simp; try with_reducible rfl)
      try simp only [Act.put, List.setIfInBounds_toArray, List.set_cons_zero, List.set_cons_succ]
      refine takeH (i := 9) (v := ?vv10) rfl (by kernel_rfl) (by kernel_rfl) (by kernel_rfl) (fun _ _ _ h => h) (Or.inl ⟨by rfl, ?hy10⟩) (by assumption) ?rest10
      case hy10 => (intro w hSw; (try dsimp only at hSw); go_simp; try with_reducible rfl)
      try simp only [Act.put, List.setIfInBounds_toArray, List.set_cons_zero, List.set_cons_succ]
      refine doneH (i := 10) rfl (by kernel_rfl) (by rfl) (fun K hK => ?_)
      have HK : Hid _ := hK
      clear hK
      go_simp
      refine (sameVotesL_at g.a _).mono ?_
      rintro e W1 ⟨rfl, hBW1⟩
      have hBW1 : Below wr.heap.size wr W1 := (Below.refl wr.heap.size wr).drew.trans hBW1
      clear hHeld
      have hC1 : Below w.heap.size w W1 := hB.trans (hBW1.mono hz)
      clear s0 s1 s2 t0 t1 t2
      obtain ⟨_, ⟨s0, s1, s2⟩, ⟨s3, s4, s5⟩⟩ := KK1.out W1 hC1
      obtain ⟨_, ⟨t0, t1, t2⟩, ⟨t3, t4, t5⟩⟩ := KK2.out W1 hC1
      refine HK.out _ _ ⟨⟨s0, s1, s2⟩, t0, t1, t2⟩ (fun hHeld => ?_)
      clear HK K
      try simp only [Act.put, List.setIfInBounds_toArray, List.set_cons_zero, List.set_cons_succ]
      refine takeH (i := 11) (v := ?vv11) rfl (by kernel_rfl) (by kernel_rfl) (by kernel_rfl) (fun _ _ _ h => h) (Or.inl ⟨by rfl, ?hy11⟩) (by assumption) ?rest11
      case hy11 => (intro w hSw; (try dsimp only at hSw); go_simp; try with_reducible rfl)
      try simp only [Act.put, List.setIfInBounds_toArray, List.set_cons_zero, List.set_cons_succ]
      clear hHeld s0 s1 s2 t0 t1 t2
      refine wpAnyH_done (by kernel_rfl) ?_ _
      go_wp2_with fail
      refine wp_region_held_drew (S := fun w' => (w'.cell? ⟨q1, j * 8 + 5, none⟩ = some (I64 g.b.v) ∧ w'.cell? ⟨q1, j * 8 + 6, none⟩ = some (I64 g.b.s) ∧ w'.cell? ⟨q1, j * 8 + 7, none⟩ = some (I64 g.b.t)) ∧ (w'.cell? ⟨q2, j * 8 + 5, none⟩ = some (I64 g.b.v) ∧ w'.cell? ⟨q2, j * 8 + 6, none⟩ = some (I64 g.b.s) ∧ w'.cell? ⟨q2, j * 8 + 7, none⟩ = some (I64 g.b.t))) (by kernel_rfl) ⟨⟨s3, s4, s5⟩, t3, t4, t5⟩ (fun hHeld => ?_)
      refine takeH (i := 0) (v := ?vv12) rfl (by kernel_rfl) (by kernel_rfl) (by kernel_rfl) (fun _ _ _ h => h) (Or.inl ⟨by rfl, ?hy12⟩) (by assumption) ?rest12
      case hy12 => (intro w hSw; (try dsimp only at hSw); go_simp; try with_reducible rfl)
      try simp only [Act.put, List.setIfInBounds_toArray, List.set_cons_zero, List.set_cons_succ]
      refine takeH (i := 1) (v := ?vv13) rfl (by kernel_rfl) (by kernel_rfl) (by kernel_rfl) (fun _ _ _ h => h) (Or.inl ⟨by rfl, ?hy13⟩) (by assumption) ?rest13
      case hy13 => (intro w hSw; (try dsimp only at hSw); go_simp; try with_reducible rfl)
      try simp only [Act.put, List.setIfInBounds_toArray, List.set_cons_zero, List.set_cons_succ]
      refine takeH (i := 2) (v := ?vv14) rfl (by kernel_rfl) (by kernel_rfl) (by kernel_rfl) (fun _ _ _ h => h) (Or.inl ⟨by rfl, ?hy14⟩) (by assumption) ?rest14
      case hy14 => (intro w hSw; (try dsimp only at hSw); go_simp; try with_reducible rfl)
      try simp only [Act.put, List.setIfInBounds_toArray, List.set_cons_zero, List.set_cons_succ]
      refine takeH (i := 3) (v := ?vv15) rfl (by kernel_rfl) (by kernel_rfl) (by kernel_rfl) (fun _ _ _ h => h) (Or.inl ⟨by rfl, ?hy15⟩) (by assumption) ?rest15
      case hy15 => (intro w hSw; (try dsimp only at hSw); go_simp; try with_reducible rfl)
      try simp only [Act.put, List.setIfInBounds_toArray, List.set_cons_zero, List.set_cons_succ]
      refine takeH (i := 4) (v := ?vv16) rfl (by kernel_rfl) (by kernel_rfl) (by kernel_rfl) (fun _ _ _ h => h) (Or.inl ⟨by rfl, ?hy16⟩) (by assumption) ?rest16
      case hy16 => (intro w hSw; (try dsimp only at hSw); go_simp; try with_reducible rfl)
      try simp only [Act.put, List.setIfInBounds_toArray, List.set_cons_zero, List.set_cons_succ]
      refine takeH (i := 5) (v := ?vv17) rfl (by kernel_rfl) (by kernel_rfl) (by kernel_rfl) (fun _ _ _ h => h) (Or.inl ⟨by rfl, ?hy17⟩) (by assumption) ?rest17
      case hy17 => (intro w hSw; (try dsimp only at hSw); go_simp; try with_reducible rfl)
      try simp only [Act.put, List.setIfInBounds_toArray, List.set_cons_zero, List.set_cons_succ]
      refine takeH (i := 6) (v := ?vv18) rfl (by kernel_rfl) (by kernel_rfl) (by kernel_rfl) (fun _ _ _ h => h) (Or.inl ⟨by rfl, ?hy18⟩) (by assumption) ?rest18
      case hy18 => (intro w hSw; (try dsimp only at hSw); go_simp; try with_reducible rfl)
      try simp only [Act.put, List.setIfInBounds_toArray, List.set_cons_zero, List.set_cons_succ]
      refine takeH (i := 7) (v := ?vv19) rfl (by kernel_rfl) (by kernel_rfl) (by kernel_rfl) (fun _ _ _ h => h) (Or.inl ⟨by rfl, ?hy19⟩) (by assumption) ?rest19
      case hy19 => (intro w hSw; (try dsimp only at hSw); go_simp; try with_reducible rfl)
      try simp only [Act.put, List.setIfInBounds_toArray, List.set_cons_zero, List.set_cons_succ]
      refine takeH (i := 8) (v := ?vv20) rfl (by kernel_rfl) (by kernel_rfl) (by kernel_rfl) (fun _ _ _ h => h) (Or.inl ⟨by rfl, ?hy20⟩) (by assumption) ?rest20
      case hy20 => (intro w hSw; (try dsimp only at hSw); go_simp; try with_reducible rfl)
      try simp only [Act.put, List.setIfInBounds_toArray, List.set_cons_zero, List.set_cons_succ]
      refine takeH (i := 9) (v := ?vv21) rfl (by kernel_rfl) (by kernel_rfl) (by kernel_rfl) (fun _ _ _ h => h) (Or.inl ⟨by rfl, ?hy21⟩) (by assumption) ?rest21
      case hy21 => (intro w hSw; (try dsimp only at hSw); go_simp; try with_reducible rfl)
      try simp only [Act.put, List.setIfInBounds_toArray, List.set_cons_zero, List.set_cons_succ]
      refine doneH (i := 10) rfl (by kernel_rfl) (by rfl) (fun K hK => ?_)
      have HK : Hid _ := hK
      clear hK
      go_simp
      refine (sameVotesL_at g.b _).mono ?_
      rintro e W2 ⟨rfl, hBW2⟩
      have hBW2 : Below W1.heap.size W1 W2 := (Below.refl W1.heap.size W1).drew.trans hBW2
      clear hHeld
      have hC2 : Below w.heap.size w W2 := hC1.trans (hBW2.mono hC1.size)
      clear s3 s4 s5 t3 t4 t5
      obtain ⟨⟨u0, u1⟩, _, ⟨s3, s4, s5⟩⟩ := KK1.out W2 hC2
      obtain ⟨⟨v0, v1⟩, _, ⟨t3, t4, t5⟩⟩ := KK2.out W2 hC2
      refine HK.out _ _ ⟨⟨s3, s4, s5⟩, t3, t4, t5⟩ (fun hHeld => ?_)
      clear HK K
      try simp only [Act.put, List.setIfInBounds_toArray, List.set_cons_zero, List.set_cons_succ]
      refine takeH (i := 11) (v := ?vv22) rfl (by kernel_rfl) (by kernel_rfl) (by kernel_rfl) (fun _ _ _ h => h) (Or.inl ⟨by rfl, ?hy22⟩) (by assumption) ?rest22
      case hy22 => (intro w hSw; (try dsimp only at hSw); go_simp; try with_reducible rfl)
      try simp only [Act.put, List.setIfInBounds_toArray, List.set_cons_zero, List.set_cons_succ]
      clear hHeld s3 s4 s5 t3 t4 t5
      refine wpAnyH_done (by kernel_rfl) ?_ _
      have n1 : (g.v != g.v) = false := by simp
      have n2 : (g.k != g.k) = false := by simp
      go_wp2_with fail
      go_quiet (fail)
      go_wp2
      go_roundw
      case rel => exact ⟨j + 1, by omega, by go_num, below_drewN hC2 _⟩
      case measure => simp [intOf]; omega
    · go_wp2
      go_ret
      exact ⟨rfl, hB⟩

end Go.Proofs.Ytgebcnnenhgkcaa
