/- guilt.Kind: in which way nobody may give two votes. -/
import Derived.Test.YtgebcnnenhgkcaaGreatB09
import Derived.Test.YtgebcnnenhgkcaaGreatB07
namespace Go.Proofs.YtgebcnnenhgkcaaGreat
open Go.RowKit Go.Shelf

theorem kind_same (b o : Nat) (ps : List Int) (x y : Vt) (he : x.is y = true) (w : World) :
    Calls Tryz.prog 157 #[.pointer (some ⟨b, o, none⟩), x.val, y.val] w fun e w' => e = .returned (.int .i64 (kindI ps x y)) ∧ Below w.heap.size w w' := by
  have heq := vote_eql x y
  rw [he] at heq
  have hk : kindI ps x y = 0 := by simp [kindI, he]
  rw [hk]
  clear hk
  go_enter Tryz.func157, Tryz.ntmps157
  go_wp2
  go_ret
  exact ⟨rfl, ((Below.refl _ w).alloc (Nat.le_refl _) _).alloc (by simp) _⟩

abbrev spanO (s t : Int) : Obj := .cells #[I64 s, I64 t] 185 (0, 0)

/-- The memory in the midst of Kind: the votes, the tree, and the variables as far as they are there. -/
structure KSt (w : World) (x y : Vt) (b o g cap : Nat) (ps : List Int) (p q : Option Nat) (s1 t1 s2 t2 : Int) (W : World) : Prop where
  bel : Below w.heap.size w W
  lt : w.heap.size + 2 ≤ W.heap.size
  tree : TreeAt W b o g cap ps
  tb : b < w.heap.size
  tg : g < w.heap.size
  bx : W.heap[w.heap.size]? = some (.cells #[I64 x.v, I64 x.s, I64 x.t] 47 (0, 0))
  by' : W.heap[w.heap.size + 1]? = some (.cells #[I64 y.v, I64 y.s, I64 y.t] 47 (0, 0))
  a7 : ∀ k, p = some k → w.heap.size + 2 ≤ k ∧ W.heap[k]? = some (spanO s1 t1)
  a8 : ∀ k, q = some k → w.heap.size + 2 ≤ k ∧ W.heap[k]? = some (spanO s2 t2)
  ne : ∀ k, p = some k → q ≠ some k

section
variable {w W : World} {x y : Vt} {b o g cap : Nat} {ps : List Int} {p q : Option Nat} {s1 t1 s2 t2 : Int}
/-- What is held for the loads. -/
def HeldK (w : World) (x y : Vt) (W : World) : Prop := (W.cell? ⟨w.heap.size, 0, none⟩ = some (I64 x.v) ∧ W.cell? ⟨w.heap.size, 1, none⟩ = some (I64 x.s) ∧ W.cell? ⟨w.heap.size, 2, none⟩ = some (I64 x.t)) ∧ (W.cell? ⟨w.heap.size + 1, 0, none⟩ = some (I64 y.v) ∧ W.cell? ⟨w.heap.size + 1, 1, none⟩ = some (I64 y.s) ∧ W.cell? ⟨w.heap.size + 1, 2, none⟩ = some (I64 y.t))
theorem KSt.held (h : KSt w x y b o g cap ps p q s1 t1 s2 t2 W) : (W.cell? ⟨w.heap.size, 0, none⟩ = some (I64 x.v) ∧ W.cell? ⟨w.heap.size, 1, none⟩ = some (I64 x.s) ∧ W.cell? ⟨w.heap.size, 2, none⟩ = some (I64 x.t)) ∧ (W.cell? ⟨w.heap.size + 1, 0, none⟩ = some (I64 y.v) ∧ W.cell? ⟨w.heap.size + 1, 1, none⟩ = some (I64 y.s) ∧ W.cell? ⟨w.heap.size + 1, 2, none⟩ = some (I64 y.t)) := by
  refine ⟨⟨?_, ?_, ?_⟩, ?_, ?_, ?_⟩
  · rw [cell_of_heap h.bx]; rfl
  · rw [cell_of_heap h.bx]; rfl
  · rw [cell_of_heap h.bx]; rfl
  · rw [cell_of_heap h.by']; rfl
  · rw [cell_of_heap h.by']; rfl
  · rw [cell_of_heap h.by']; rfl
theorem KSt.below {W2 : World} (h : KSt w x y b o g cap ps p q s1 t1 s2 t2 W) (hB : Below W.heap.size W W2) : KSt w x y b o g cap ps p q s1 t1 s2 t2 W2 := by
  have hz := hB.size
  have h1 := h.lt
  exact ⟨h.1.trans (hB.mono h.1.size), by omega, h.tree.below hB (by have := h.tb; omega) (by have := h.tg; omega), h.tb, h.tg, (hB.block _ (by omega)).trans h.bx, (hB.block _ (by omega)).trans h.by',
    fun k hk => ⟨(h.a7 k hk).1, (hB.block _ (Array.getElem?_eq_some_iff.1 (h.a7 k hk).2).1).trans (h.a7 k hk).2⟩, fun k hk => ⟨(h.a8 k hk).1, (hB.block _ (Array.getElem?_eq_some_iff.1 (h.a8 k hk).2).1).trans (h.a8 k hk).2⟩, h.ne⟩
theorem KSt.alloc7 (h : KSt w x y b o g cap ps none q s1 t1 s2 t2 W) : KSt w x y b o g cap ps (some W.heap.size) q 0 0 s2 t2 (W.alloc (.cells #[I64 0, I64 0] 185)) := by
  have hB : Below W.heap.size W (W.alloc (.cells #[I64 0, I64 0] 185)) := (Below.refl _ W).alloc (Nat.le_refl _) _
  have h' := h.below hB
  refine ⟨h'.1, h'.lt, h'.tree, h'.tb, h'.tg, h'.bx, h'.by', fun k hk => ?_, h'.a8, fun k hk hq => ?_⟩
  · simp only [Option.some.injEq] at hk
    subst hk
    exact ⟨h.lt, heap_alloc_new W _⟩
  · simp only [Option.some.injEq] at hk
    subst hk
    have := (Array.getElem?_eq_some_iff.1 (h.a8 _ hq).2).1
    omega
theorem KSt.alloc8 (h : KSt w x y b o g cap ps p none s1 t1 s2 t2 W) : KSt w x y b o g cap ps p (some W.heap.size) s1 t1 0 0 (W.alloc (.cells #[I64 0, I64 0] 185)) := by
  have hB : Below W.heap.size W (W.alloc (.cells #[I64 0, I64 0] 185)) := (Below.refl _ W).alloc (Nat.le_refl _) _
  have h' := h.below hB
  refine ⟨h'.1, h'.lt, h'.tree, h'.tb, h'.tg, h'.bx, h'.by', h'.a7, fun k hk => ?_, fun k hk hq => ?_⟩
  · simp only [Option.some.injEq] at hk
    subst hk
    exact ⟨h.lt, heap_alloc_new W _⟩
  · simp only [Option.some.injEq] at hq
    subst hq
    have := (Array.getElem?_eq_some_iff.1 (h.a7 _ hk).2).1
    omega
variable {k l : Nat}
theorem KSt.at7 (h : KSt w x y b o g cap ps (some k) q s1 t1 s2 t2 W) : W.cell? ⟨k, 0, none⟩ = some (I64 s1) ∧ W.cell? ⟨k, 1, none⟩ = some (I64 t1) ∧ W.frozen? ⟨k, 0, none⟩ = false ∧ W.frozen? ⟨k, 1, none⟩ = false := by
  have := (h.a7 k rfl).2
  exact ⟨by rw [cell_of_heap this]; rfl, by rw [cell_of_heap this]; rfl, frozen_of_heap this 0, frozen_of_heap this 1⟩
theorem KSt.at8 (h : KSt w x y b o g cap ps p (some l) s1 t1 s2 t2 W) : W.cell? ⟨l, 0, none⟩ = some (I64 s2) ∧ W.cell? ⟨l, 1, none⟩ = some (I64 t2) ∧ W.frozen? ⟨l, 0, none⟩ = false ∧ W.frozen? ⟨l, 1, none⟩ = false := by
  have := (h.a8 l rfl).2
  exact ⟨by rw [cell_of_heap this]; rfl, by rw [cell_of_heap this]; rfl, frozen_of_heap this 0, frozen_of_heap this 1⟩
theorem span_set (W : World) (k : Nat) (s t s' t' : Int) (h : W.heap[k]? = some (spanO s t)) : ((W.setCell ⟨k, 0, none⟩ (I64 s')).setCell ⟨k, 1, none⟩ (I64 t')).heap[k]? = some (spanO s' t') := by
  rw [heap_setCell_same _ k 1 _ _ _ (heap_setCell_same W k 0 _ _ _ h)]; rfl
theorem span_other (W : World) (k j : Nat) (s' t' : Int) (hj : j ≠ k) : ((W.setCell ⟨k, 0, none⟩ (I64 s')).setCell ⟨k, 1, none⟩ (I64 t')).heap[j]? = W.heap[j]? := by
  rw [Below.heap_setCell _ _ _ _ hj, Below.heap_setCell _ _ _ _ hj]
theorem span_size (W : World) (k : Nat) (s' t' : Int) : ((W.setCell ⟨k, 0, none⟩ (I64 s')).setCell ⟨k, 1, none⟩ (I64 t')).heap.size = W.heap.size := by simp [World.setCell]
theorem KSt.set7 (h : KSt w x y b o g cap ps (some k) (some l) s1 t1 s2 t2 W) (s t : Int) : KSt w x y b o g cap ps (some k) (some l) s t s2 t2 ((W.setCell ⟨k, 0, none⟩ (I64 s)).setCell ⟨k, 1, none⟩ (I64 t)) := by
  obtain ⟨h1, h2⟩ := h.a7 k rfl
  have hne := h.ne k rfl
  have hb := h.tb
  have hg := h.tg
  refine ⟨(h.1.setCell (p := ⟨k, 0, none⟩) (by dsimp only; omega) _).setCell (p := ⟨k, 1, none⟩) (by dsimp only; omega) _, by rw [span_size]; exact h.lt, ⟨?_, fun j hj => ?_⟩, hb, hg, (span_other _ _ _ _ _ (by omega)).trans h.bx, (span_other _ _ _ _ _ (by omega)).trans h.by', fun j hj => ?_, fun j hj => ?_, h.ne⟩
  · exact (World.cell?_of_block (span_other _ _ _ _ _ (by dsimp only; omega))).trans h.tree.pv
  · exact (World.cell?_of_block (span_other _ _ _ _ _ (by dsimp only; omega))).trans (h.tree.cs j hj)
  · simp only [Option.some.injEq] at hj
    subst hj
    exact ⟨h1, span_set _ _ _ _ _ _ h2⟩
  · refine ⟨(h.a8 j hj).1, (span_other _ _ _ _ _ ?_).trans (h.a8 j hj).2⟩
    rintro rfl
    exact hne hj
theorem KSt.set8 (h : KSt w x y b o g cap ps (some k) (some l) s1 t1 s2 t2 W) (s t : Int) : KSt w x y b o g cap ps (some k) (some l) s1 t1 s t ((W.setCell ⟨l, 0, none⟩ (I64 s)).setCell ⟨l, 1, none⟩ (I64 t)) := by
  obtain ⟨h1, h2⟩ := h.a8 l rfl
  have hne := h.ne k rfl
  have hb := h.tb
  have hg := h.tg
  refine ⟨(h.1.setCell (p := ⟨l, 0, none⟩) (by dsimp only; omega) _).setCell (p := ⟨l, 1, none⟩) (by dsimp only; omega) _, by rw [span_size]; exact h.lt, ⟨?_, fun j hj => ?_⟩, hb, hg, (span_other _ _ _ _ _ (by omega)).trans h.bx, (span_other _ _ _ _ _ (by omega)).trans h.by', fun j hj => ?_, fun j hj => ?_, h.ne⟩
  · exact (World.cell?_of_block (span_other _ _ _ _ _ (by dsimp only; omega))).trans h.tree.pv
  · exact (World.cell?_of_block (span_other _ _ _ _ _ (by dsimp only; omega))).trans (h.tree.cs j hj)
  · refine ⟨(h.a7 j hj).1, (span_other _ _ _ _ _ ?_).trans (h.a7 j hj).2⟩
    rintro rfl
    simp only [Option.some.injEq] at hj
    subst hj
    exact hne rfl
  · simp only [Option.some.injEq] at hj
    subst hj
    exact ⟨h1, span_set _ _ _ _ _ _ h2⟩
end

/-- The frame behind the region. -/
def kFr (b o n p q : Nat) (x y : Vt) (a1 a2 a3 a4 : Int) : Array Value := #[.pointer (some ⟨b, o, none⟩), x.val, y.val, undef, .pointer (some ⟨n, 0, none⟩), .pointer (some ⟨n + 1, 0, none⟩), .int .i64 0, .pointer (some ⟨p, 0, none⟩), .pointer (some ⟨q, 0, none⟩), .agg #[I64 x.v, I64 x.s, I64 x.t], .agg #[I64 y.v, I64 y.s, I64 y.t], .bool false, .bool false, .pointer (some ⟨n, 0, none⟩), I64 x.v, .pointer (some ⟨n + 1, 0, none⟩), I64 y.v, .bool false, .bool false, .pointer (some ⟨b, o, none⟩), .agg #[I64 x.v, I64 x.s, I64 x.t], .agg #[I64 a1, I64 a2], .pointer (some ⟨b, o, none⟩), .agg #[I64 y.v, I64 y.s, I64 y.t], .agg #[I64 a3, I64 a4], undef, undef, undef, undef, undef, undef, undef, undef, undef, undef, undef, undef, undef, undef, undef]

set_option maxRecDepth 100000 in
set_option maxHeartbeats 4000000 in
theorem kind_at (b o g cap : Nat) (ps : List Int) (hT : Tree ps) (x y : Vt) (he : x.is y = false) (hv : x.v = y.v) (hx : OkB ps x) (hy : OkB ps y) (w : World) (hA : TreeAt w b o g cap ps) :
    Calls Tryz.prog 157 #[.pointer (some ⟨b, o, none⟩), x.val, y.val] w fun e w' => e = .returned (.int .i64 (kindI ps x y)) ∧ Below w.heap.size w w' := by
  have hlb := hA.lt_b
  have hlg := hA.lt_g hT.1
  have heq := vote_eql x y
  rw [he] at heq
  have hvb : (x.v != y.v) = false := by simpa using hv
  have HV : Hid (x.v = y.v) := hv
  clear hv
  go_enter Tryz.func157, Tryz.ntmps157
  go_wp2_with fail
  obtain ⟨W0, hW0⟩ : ∃ W0, (w.alloc (.cells #[I64 x.v, I64 x.s, I64 x.t] 47)).alloc (.cells #[I64 y.v, I64 y.s, I64 y.t] 47) = W0 := ⟨_, rfl⟩
  have hk0 : KSt w x y b o g cap ps none none 0 0 0 0 W0 := by
    have hB : Below w.heap.size w W0 := by rw [← hW0]; exact ((Below.refl _ w).alloc (Nat.le_refl _) _).alloc (by simp) _
    refine ⟨hB, by rw [← hW0]; simp, hA.below hB hlb hlg, hlb, hlg, ?_, ?_, fun k h => by simp at h, fun k h => by simp at h, fun k h => by simp at h⟩
    · rw [← hW0, Below.heap_alloc _ _ _ (by simp)]; exact heap_alloc_new w _
    · rw [← hW0]; have := heap_alloc_new (w.alloc (.cells #[I64 x.v, I64 x.s, I64 x.t] 47)) (.cells #[I64 y.v, I64 y.s, I64 y.t] 47); simpa using this
  rw [hW0]
  clear hW0
  have hk := hk0.below (Below.refl W0.heap.size W0).drew
  clear hk0
  refine Code.wp_mono (Q := NoPanic (fun e a' w' => ∃ p q, e = .normal ∧ a' = { tmps := kFr b o w.heap.size p q x y (ht ps x.s) (ht ps x.t) (ht ps y.s) (ht ps y.t), defers := [] } ∧ KSt w x y b o g cap ps (some p) (some q) (ht ps x.s) (ht ps x.t) (ht ps y.s) (ht ps y.t) w')) ?_ ?_
  · rintro e a' w' hq
    obtain ⟨p, q, rfl, rfl, hk2⟩ := NoPanic.imp _ _ _ hq
    clear hq hk
    obtain ⟨f0, f1, _, _⟩ := hk2.at7
    obtain ⟨f2, f3, _, _⟩ := hk2.at8
    have hB := hk2.1
    have HK2 : Hid _ := hk2
    clear hk2
    obtain ⟨a1, ha1⟩ : ∃ z, ht ps x.s = z := ⟨_, rfl⟩
    obtain ⟨a2, ha2⟩ : ∃ z, ht ps x.t = z := ⟨_, rfl⟩
    obtain ⟨a3, ha3⟩ : ∃ z, ht ps y.s = z := ⟨_, rfl⟩
    obtain ⟨a4, ha4⟩ : ∃ z, ht ps y.t = z := ⟨_, rfl⟩
    rw [ha1] at f0 ⊢
    rw [ha2] at f1 ⊢
    rw [ha3] at f2 ⊢
    rw [ha4] at f3 ⊢
    have HK : Hid (kindI ps x y = if a2 = a4 then 1 else if (a1 < a3 ∧ a4 < a2) ∨ (a3 < a1 ∧ a2 < a4) then 2 else 0) := by
      show _ = _
      unfold kindI
      rw [he, ha1, ha2, ha3, ha4]; simp
    unfold kFr
    dsimp only
    clear ha1 ha2 ha3 ha4 HK2
    by_cases h1 : a2 = a4
    · have q1 : (a2 == a4) = true := by simpa using h1
      have HK' : Hid (kindI ps x y = 1) := by show _ = _; rw [HK.out, if_pos h1]
      clear HK h1
      go_wp2
      go_ret
      exact ⟨by rw [HK'.out]; rfl, hB⟩
    · have q1 : (a2 == a4) = false := by simpa using h1
      have HK' : Hid (kindI ps x y = if (a1 < a3 ∧ a4 < a2) ∨ (a3 < a1 ∧ a2 < a4) then 2 else 0) := by show _ = _; rw [HK.out, if_neg h1]
      clear HK h1
      have hpl := World.block_lt_of_cell? w' _ f0
      have hql := World.block_lt_of_cell? w' _ f2
      go_wp2_with fail
      refine (around_at a1 a2 a3 a4 _).mono ?_
      rintro e w3 ⟨rfl, hB3⟩
      have f0' : w3.cell? ⟨p, 0, none⟩ = some (I64 a1) := (hB3.cell (p := ⟨p, 0, none⟩) hpl).trans f0
      have f1' : w3.cell? ⟨p, 1, none⟩ = some (I64 a2) := (hB3.cell (p := ⟨p, 1, none⟩) hpl).trans f1
      have f2' : w3.cell? ⟨q, 0, none⟩ = some (I64 a3) := (hB3.cell (p := ⟨q, 0, none⟩) hql).trans f2
      have f3' : w3.cell? ⟨q, 1, none⟩ = some (I64 a4) := (hB3.cell (p := ⟨q, 1, none⟩) hql).trans f3
      have hB' : Below w.heap.size w w3 := hB.trans (hB3.mono hB.size)
      have hz3 := hB'.size
      clear f0 f1 f2 f3 hB3
      cases hc1 : (decide (a1 < a3) && decide (a2 > a4))
      · go_wp2_with fail
        refine (around_at a3 a4 a1 a2 _).mono ?_
        rintro e w4 ⟨rfl, hB4⟩
        have hB'' : Below w.heap.size w w4 := hB'.trans (hB4.mono hz3)
        clear hB4
        cases hc2 : (decide (a3 < a1) && decide (a4 > a2))
        · have HK2 : Hid (kindI ps x y = 0) := by
            show _ = _
            rw [HK'.out, if_neg]
            simp at hc1 hc2
            omega
          clear HK' hc1 hc2
          go_wp2
          go_ret
          exact ⟨by rw [HK2.out]; rfl, hB''⟩
        · have HK2 : Hid (kindI ps x y = 2) := by
            show _ = _
            rw [HK'.out, if_pos]
            simp at hc2
            omega
          clear HK' hc1 hc2
          go_wp2
          go_ret
          exact ⟨by rw [HK2.out]; rfl, hB''⟩
      · have HK2 : Hid (kindI ps x y = 2) := by
          show _ = _
          rw [HK'.out, if_pos]
          simp at hc1
          omega
        clear HK' hc1
        go_wp2
        go_ret
        exact ⟨by rw [HK2.out]; rfl, hB'⟩
  refine wp_region_held_drew (S := fun W => (W.cell? ⟨w.heap.size, 0, none⟩ = some (I64 x.v) ∧ W.cell? ⟨w.heap.size, 1, none⟩ = some (I64 x.s) ∧ W.cell? ⟨w.heap.size, 2, none⟩ = some (I64 x.t)) ∧ (W.cell? ⟨w.heap.size + 1, 0, none⟩ = some (I64 y.v) ∧ W.cell? ⟨w.heap.size + 1, 1, none⟩ = some (I64 y.s) ∧ W.cell? ⟨w.heap.size + 1, 2, none⟩ = some (I64 y.t))) (by kernel_rfl) hk.held (fun hHeld => ?_)
  generalize W0.drew = V0 at hk hHeld ⊢
  refine takeH (i := 0) (v := ?vv1) rfl (by kernel_rfl) (by kernel_rfl) (by kernel_rfl) (fun _ _ _ h => h) (Or.inl ⟨by rfl, ?hy1⟩) (by assumption) ?rest1
  case hy1 => (intro w hSw; (try dsimp only at hSw); go_simp; try with_reducible rfl)
  try simp only [Act.put, List.setIfInBounds_toArray, List.set_cons_zero, List.set_cons_succ]
  refine takeH (i := 1) (v := ?vv2) rfl (by kernel_rfl) (by kernel_rfl) (by kernel_rfl) (fun _ _ _ h => h) (Or.inl ⟨by rfl, ?hy2⟩) (by assumption) ?rest2
  case hy2 => (intro w hSw; (try dsimp only at hSw); go_simp; try with_reducible rfl)
  try simp only [Act.put, List.setIfInBounds_toArray, List.set_cons_zero, List.set_cons_succ]
  refine takeH (i := 3) (v := ?vv3) rfl (by kernel_rfl) (by kernel_rfl) (by kernel_rfl) (fun _ _ _ h => h) (Or.inl ⟨by rfl, ?hy3⟩) (by assumption) ?rest3
  case hy3 => (intro w hSw; (try dsimp only at hSw); go_simp; try with_reducible rfl)
  try simp only [Act.put, List.setIfInBounds_toArray, List.set_cons_zero, List.set_cons_succ]
  refine takeH (i := 4) (v := ?vv4) rfl (by kernel_rfl) (by kernel_rfl) (by kernel_rfl) (fun _ _ _ h => h) (Or.inl ⟨by rfl, ?hy4⟩) (by assumption) ?rest4
  case hy4 => (intro w hSw; (try dsimp only at hSw); go_simp; try with_reducible rfl)
  try simp only [Act.put, List.setIfInBounds_toArray, List.set_cons_zero, List.set_cons_succ]
  refine wpAnyH_ready (rs := [2, 6, 7]) (by kernel_rfl) (by simp) ?_
  refine AllReadyH.cons (nthO_at rfl) (fun K hK => ?_) ?_
  · rw [if_pos (by rfl)]
    have HK : Hid _ := hK.out
    clear hK
    go_simp
    refine (spanOf_at b o g cap ps hT x hx _ hk.tree).mono ?_
    rintro e V1 ⟨rfl, hB2⟩
    have hk := hk.below hB2
    clear hB2
    refine HK.out _ _ hk.held (fun hHeld => ?_)
    clear HK K
    try simp only [Act.put, List.setIfInBounds_toArray, List.set_cons_zero, List.set_cons_succ]
    refine wpAnyH_ready (rs := [5, 6, 7]) (by kernel_rfl) (by simp) ?_
    refine AllReadyH.cons (nthO_at rfl) (fun K hK => ?_) ?_
    · rw [if_pos (by rfl)]
      have HK : Hid _ := hK.out
      clear hK
      go_simp
      refine (spanOf_at b o g cap ps hT y hy _ hk.tree).mono ?_
      rintro e V2 ⟨rfl, hB2⟩
      have hk := hk.below hB2
      clear hB2
      refine HK.out _ _ hk.held (fun hHeld => ?_)
      clear HK K
      try simp only [Act.put, List.setIfInBounds_toArray, List.set_cons_zero, List.set_cons_succ]
      refine wpAnyH_ready (rs := [6, 7]) (by kernel_rfl) (by simp) ?_
      refine AllReadyH.cons (nthO_at rfl) (fun K hK => ?_) ?_
      · rw [if_pos (by rfl)]
        have HK : Hid _ := hK.out
        clear hK
        go_simp
        have hk := hk.alloc7
        refine HK.out _ _ hk.held (fun hHeld => ?_)
        clear HK K
        try simp only [Act.put, List.setIfInBounds_toArray, List.set_cons_zero, List.set_cons_succ]
        generalize V2.alloc (.cells #[I64 0, I64 0] 185) = V3 at hk hHeld ⊢
        generalize V2.heap.size = p7 at hk ⊢
        refine wpAnyH_ready (rs := [7]) (by kernel_rfl) (by simp) ?_
        refine AllReadyH.cons (nthO_at rfl) (fun K hK => ?_) ?_
        · rw [if_pos (by rfl)]
          have HK : Hid _ := hK.out
          clear hK
          go_simp
          have hk := hk.alloc8
          refine HK.out _ _ hk.held (fun hHeld => ?_)
          clear HK K
          try simp only [Act.put, List.setIfInBounds_toArray, List.set_cons_zero, List.set_cons_succ]
          generalize V3.alloc (.cells #[I64 0, I64 0] 185) = V4 at hk hHeld ⊢
          generalize V3.heap.size = p8 at hk ⊢
          refine doneH (i := 8) rfl (by kernel_rfl) (by rfl) (fun K hK => ?_)
          have HK : Hid _ := hK
          clear hK
          obtain ⟨f0, f1, g0, g1⟩ := hk.at7
          go_simp
          have hk := hk.set7 (ht ps x.s) (ht ps x.t)
          refine HK.out _ _ hk.held (fun hHeld => ?_)
          clear HK K f0 f1 g0 g1
          try simp only [Act.put, List.setIfInBounds_toArray, List.set_cons_zero, List.set_cons_succ]
          refine doneH (i := 9) rfl (by kernel_rfl) (by rfl) (fun K hK => ?_)
          have HK : Hid _ := hK
          clear hK
          obtain ⟨f0, f1, g0, g1⟩ := hk.at8
          go_simp
          have hk := hk.set8 (ht ps y.s) (ht ps y.t)
          refine HK.out _ _ hk.held (fun hHeld => ?_)
          clear HK K f0 f1 g0 g1
          try simp only [Act.put, List.setIfInBounds_toArray, List.set_cons_zero, List.set_cons_succ]
          refine wpAnyH_done (by kernel_rfl) ?_ _
          refine NoPanic.normal ⟨_, _, rfl, ?_, hk⟩
          unfold kFr
          rfl
        exact AllReadyH.nil
      refine AllReadyH.cons (nthO_at rfl) (fun K hK => ?_) ?_
      · rw [if_pos (by rfl)]
        have HK : Hid _ := hK.out
        clear hK
        go_simp
        have hk := hk.alloc8
        refine HK.out _ _ hk.held (fun hHeld => ?_)
        clear HK K
        try simp only [Act.put, List.setIfInBounds_toArray, List.set_cons_zero, List.set_cons_succ]
        generalize V2.alloc (.cells #[I64 0, I64 0] 185) = V5 at hk hHeld ⊢
        generalize V2.heap.size = p8 at hk ⊢
        refine wpAnyH_ready (rs := [6]) (by kernel_rfl) (by simp) ?_
        refine AllReadyH.cons (nthO_at rfl) (fun K hK => ?_) ?_
        · rw [if_pos (by rfl)]
          have HK : Hid _ := hK.out
          clear hK
          go_simp
          have hk := hk.alloc7
          refine HK.out _ _ hk.held (fun hHeld => ?_)
          clear HK K
          try simp only [Act.put, List.setIfInBounds_toArray, List.set_cons_zero, List.set_cons_succ]
          generalize V5.alloc (.cells #[I64 0, I64 0] 185) = V6 at hk hHeld ⊢
          generalize V5.heap.size = p7 at hk ⊢
          refine doneH (i := 8) rfl (by kernel_rfl) (by rfl) (fun K hK => ?_)
          have HK : Hid _ := hK
          clear hK
          obtain ⟨f0, f1, g0, g1⟩ := hk.at7
          go_simp
          have hk := hk.set7 (ht ps x.s) (ht ps x.t)
          refine HK.out _ _ hk.held (fun hHeld => ?_)
          clear HK K f0 f1 g0 g1
          try simp only [Act.put, List.setIfInBounds_toArray, List.set_cons_zero, List.set_cons_succ]
          refine doneH (i := 9) rfl (by kernel_rfl) (by rfl) (fun K hK => ?_)
          have HK : Hid _ := hK
          clear hK
          obtain ⟨f0, f1, g0, g1⟩ := hk.at8
          go_simp
          have hk := hk.set8 (ht ps y.s) (ht ps y.t)
          refine HK.out _ _ hk.held (fun hHeld => ?_)
          clear HK K f0 f1 g0 g1
          try simp only [Act.put, List.setIfInBounds_toArray, List.set_cons_zero, List.set_cons_succ]
          refine wpAnyH_done (by kernel_rfl) ?_ _
          refine NoPanic.normal ⟨_, _, rfl, ?_, hk⟩
          unfold kFr
          rfl
        exact AllReadyH.nil
      exact AllReadyH.nil
    refine AllReadyH.cons (nthO_at rfl) (fun K hK => ?_) ?_
    · rw [if_pos (by rfl)]
      have HK : Hid _ := hK.out
      clear hK
      go_simp
      have hk := hk.alloc7
      refine HK.out _ _ hk.held (fun hHeld => ?_)
      clear HK K
      try simp only [Act.put, List.setIfInBounds_toArray, List.set_cons_zero, List.set_cons_succ]
      generalize V1.alloc (.cells #[I64 0, I64 0] 185) = V7 at hk hHeld ⊢
      generalize V1.heap.size = p7 at hk ⊢
      refine wpAnyH_ready (rs := [5, 7]) (by kernel_rfl) (by simp) ?_
      refine AllReadyH.cons (nthO_at rfl) (fun K hK => ?_) ?_
      · rw [if_pos (by rfl)]
        have HK : Hid _ := hK.out
        clear hK
        go_simp
        refine (spanOf_at b o g cap ps hT y hy _ hk.tree).mono ?_
        rintro e V8 ⟨rfl, hB2⟩
        have hk := hk.below hB2
        clear hB2
        refine HK.out _ _ hk.held (fun hHeld => ?_)
        clear HK K
        try simp only [Act.put, List.setIfInBounds_toArray, List.set_cons_zero, List.set_cons_succ]
        refine wpAnyH_ready (rs := [7]) (by kernel_rfl) (by simp) ?_
        refine AllReadyH.cons (nthO_at rfl) (fun K hK => ?_) ?_
        · rw [if_pos (by rfl)]
          have HK : Hid _ := hK.out
          clear hK
          go_simp
          have hk := hk.alloc8
          refine HK.out _ _ hk.held (fun hHeld => ?_)
          clear HK K
          try simp only [Act.put, List.setIfInBounds_toArray, List.set_cons_zero, List.set_cons_succ]
          generalize V8.alloc (.cells #[I64 0, I64 0] 185) = V9 at hk hHeld ⊢
          generalize V8.heap.size = p8 at hk ⊢
          refine doneH (i := 8) rfl (by kernel_rfl) (by rfl) (fun K hK => ?_)
          have HK : Hid _ := hK
          clear hK
          obtain ⟨f0, f1, g0, g1⟩ := hk.at7
          go_simp
          have hk := hk.set7 (ht ps x.s) (ht ps x.t)
          refine HK.out _ _ hk.held (fun hHeld => ?_)
          clear HK K f0 f1 g0 g1
          try simp only [Act.put, List.setIfInBounds_toArray, List.set_cons_zero, List.set_cons_succ]
          refine doneH (i := 9) rfl (by kernel_rfl) (by rfl) (fun K hK => ?_)
          have HK : Hid _ := hK
          clear hK
          obtain ⟨f0, f1, g0, g1⟩ := hk.at8
          go_simp
          have hk := hk.set8 (ht ps y.s) (ht ps y.t)
          refine HK.out _ _ hk.held (fun hHeld => ?_)
          clear HK K f0 f1 g0 g1
          try simp only [Act.put, List.setIfInBounds_toArray, List.set_cons_zero, List.set_cons_succ]
          refine wpAnyH_done (by kernel_rfl) ?_ _
          refine NoPanic.normal ⟨_, _, rfl, ?_, hk⟩
          unfold kFr
          rfl
        exact AllReadyH.nil
      refine AllReadyH.cons (nthO_at rfl) (fun K hK => ?_) ?_
      · rw [if_pos (by rfl)]
        have HK : Hid _ := hK.out
        clear hK
        go_simp
        have hk := hk.alloc8
        refine HK.out _ _ hk.held (fun hHeld => ?_)
        clear HK K
        try simp only [Act.put, List.setIfInBounds_toArray, List.set_cons_zero, List.set_cons_succ]
        generalize V7.alloc (.cells #[I64 0, I64 0] 185) = V10 at hk hHeld ⊢
        generalize V7.heap.size = p8 at hk ⊢
        refine wpAnyH_ready (rs := [5]) (by kernel_rfl) (by simp) ?_
        refine AllReadyH.cons (nthO_at rfl) (fun K hK => ?_) ?_
        · rw [if_pos (by rfl)]
          have HK : Hid _ := hK.out
          clear hK
          go_simp
          refine (spanOf_at b o g cap ps hT y hy _ hk.tree).mono ?_
          rintro e V11 ⟨rfl, hB2⟩
          have hk := hk.below hB2
          clear hB2
          refine HK.out _ _ hk.held (fun hHeld => ?_)
          clear HK K
          try simp only [Act.put, List.setIfInBounds_toArray, List.set_cons_zero, List.set_cons_succ]
          refine doneH (i := 8) rfl (by kernel_rfl) (by rfl) (fun K hK => ?_)
          have HK : Hid _ := hK
          clear hK
          obtain ⟨f0, f1, g0, g1⟩ := hk.at7
          go_simp
          have hk := hk.set7 (ht ps x.s) (ht ps x.t)
          refine HK.out _ _ hk.held (fun hHeld => ?_)
          clear HK K f0 f1 g0 g1
          try simp only [Act.put, List.setIfInBounds_toArray, List.set_cons_zero, List.set_cons_succ]
          refine doneH (i := 9) rfl (by kernel_rfl) (by rfl) (fun K hK => ?_)
          have HK : Hid _ := hK
          clear hK
          obtain ⟨f0, f1, g0, g1⟩ := hk.at8
          go_simp
          have hk := hk.set8 (ht ps y.s) (ht ps y.t)
          refine HK.out _ _ hk.held (fun hHeld => ?_)
          clear HK K f0 f1 g0 g1
          try simp only [Act.put, List.setIfInBounds_toArray, List.set_cons_zero, List.set_cons_succ]
          refine wpAnyH_done (by kernel_rfl) ?_ _
          refine NoPanic.normal ⟨_, _, rfl, ?_, hk⟩
          unfold kFr
          rfl
        exact AllReadyH.nil
      exact AllReadyH.nil
    refine AllReadyH.cons (nthO_at rfl) (fun K hK => ?_) ?_
    · rw [if_pos (by rfl)]
      have HK : Hid _ := hK.out
      clear hK
      go_simp
      have hk := hk.alloc8
      refine HK.out _ _ hk.held (fun hHeld => ?_)
      clear HK K
      try simp only [Act.put, List.setIfInBounds_toArray, List.set_cons_zero, List.set_cons_succ]
      generalize V1.alloc (.cells #[I64 0, I64 0] 185) = V12 at hk hHeld ⊢
      generalize V1.heap.size = p8 at hk ⊢
      refine wpAnyH_ready (rs := [5, 6]) (by kernel_rfl) (by simp) ?_
      refine AllReadyH.cons (nthO_at rfl) (fun K hK => ?_) ?_
      · rw [if_pos (by rfl)]
        have HK : Hid _ := hK.out
        clear hK
        go_simp
        refine (spanOf_at b o g cap ps hT y hy _ hk.tree).mono ?_
        rintro e V13 ⟨rfl, hB2⟩
        have hk := hk.below hB2
        clear hB2
        refine HK.out _ _ hk.held (fun hHeld => ?_)
        clear HK K
        try simp only [Act.put, List.setIfInBounds_toArray, List.set_cons_zero, List.set_cons_succ]
        refine wpAnyH_ready (rs := [6]) (by kernel_rfl) (by simp) ?_
        refine AllReadyH.cons (nthO_at rfl) (fun K hK => ?_) ?_
        · rw [if_pos (by rfl)]
          have HK : Hid _ := hK.out
          clear hK
          go_simp
          have hk := hk.alloc7
          refine HK.out _ _ hk.held (fun hHeld => ?_)
          clear HK K
          try simp only [Act.put, List.setIfInBounds_toArray, List.set_cons_zero, List.set_cons_succ]
          generalize V13.alloc (.cells #[I64 0, I64 0] 185) = V14 at hk hHeld ⊢
          generalize V13.heap.size = p7 at hk ⊢
          refine doneH (i := 8) rfl (by kernel_rfl) (by rfl) (fun K hK => ?_)
          have HK : Hid _ := hK
          clear hK
          obtain ⟨f0, f1, g0, g1⟩ := hk.at7
          go_simp
          have hk := hk.set7 (ht ps x.s) (ht ps x.t)
          refine HK.out _ _ hk.held (fun hHeld => ?_)
          clear HK K f0 f1 g0 g1
          try simp only [Act.put, List.setIfInBounds_toArray, List.set_cons_zero, List.set_cons_succ]
          refine doneH (i := 9) rfl (by kernel_rfl) (by rfl) (fun K hK => ?_)
          have HK : Hid _ := hK
          clear hK
          obtain ⟨f0, f1, g0, g1⟩ := hk.at8
          go_simp
          have hk := hk.set8 (ht ps y.s) (ht ps y.t)
          refine HK.out _ _ hk.held (fun hHeld => ?_)
          clear HK K f0 f1 g0 g1
          try simp only [Act.put, List.setIfInBounds_toArray, List.set_cons_zero, List.set_cons_succ]
          refine wpAnyH_done (by kernel_rfl) ?_ _
          refine NoPanic.normal ⟨_, _, rfl, ?_, hk⟩
          unfold kFr
          rfl
        exact AllReadyH.nil
      refine AllReadyH.cons (nthO_at rfl) (fun K hK => ?_) ?_
      · rw [if_pos (by rfl)]
        have HK : Hid _ := hK.out
        clear hK
        go_simp
        have hk := hk.alloc7
        refine HK.out _ _ hk.held (fun hHeld => ?_)
        clear HK K
        try simp only [Act.put, List.setIfInBounds_toArray, List.set_cons_zero, List.set_cons_succ]
        generalize V12.alloc (.cells #[I64 0, I64 0] 185) = V15 at hk hHeld ⊢
        generalize V12.heap.size = p7 at hk ⊢
        refine wpAnyH_ready (rs := [5]) (by kernel_rfl) (by simp) ?_
        refine AllReadyH.cons (nthO_at rfl) (fun K hK => ?_) ?_
        · rw [if_pos (by rfl)]
          have HK : Hid _ := hK.out
          clear hK
          go_simp
          refine (spanOf_at b o g cap ps hT y hy _ hk.tree).mono ?_
          rintro e V16 ⟨rfl, hB2⟩
          have hk := hk.below hB2
          clear hB2
          refine HK.out _ _ hk.held (fun hHeld => ?_)
          clear HK K
          try simp only [Act.put, List.setIfInBounds_toArray, List.set_cons_zero, List.set_cons_succ]
          refine doneH (i := 8) rfl (by kernel_rfl) (by rfl) (fun K hK => ?_)
          have HK : Hid _ := hK
          clear hK
          obtain ⟨f0, f1, g0, g1⟩ := hk.at7
          go_simp
          have hk := hk.set7 (ht ps x.s) (ht ps x.t)
          refine HK.out _ _ hk.held (fun hHeld => ?_)
          clear HK K f0 f1 g0 g1
          try simp only [Act.put, List.setIfInBounds_toArray, List.set_cons_zero, List.set_cons_succ]
          refine doneH (i := 9) rfl (by kernel_rfl) (by rfl) (fun K hK => ?_)
          have HK : Hid _ := hK
          clear hK
          obtain ⟨f0, f1, g0, g1⟩ := hk.at8
          go_simp
          have hk := hk.set8 (ht ps y.s) (ht ps y.t)
          refine HK.out _ _ hk.held (fun hHeld => ?_)
          clear HK K f0 f1 g0 g1
          try simp only [Act.put, List.setIfInBounds_toArray, List.set_cons_zero, List.set_cons_succ]
          refine wpAnyH_done (by kernel_rfl) ?_ _
          refine NoPanic.normal ⟨_, _, rfl, ?_, hk⟩
          unfold kFr
          rfl
        exact AllReadyH.nil
      exact AllReadyH.nil
    exact AllReadyH.nil
  refine AllReadyH.cons (nthO_at rfl) (fun K hK => ?_) ?_
  · rw [if_pos (by rfl)]
    have HK : Hid _ := hK.out
    clear hK
    go_simp
    have hk := hk.alloc7
    refine HK.out _ _ hk.held (fun hHeld => ?_)
    clear HK K
    try simp only [Act.put, List.setIfInBounds_toArray, List.set_cons_zero, List.set_cons_succ]
    generalize V0.alloc (.cells #[I64 0, I64 0] 185) = V17 at hk hHeld ⊢
    generalize V0.heap.size = p7 at hk ⊢
    refine wpAnyH_ready (rs := [2, 7]) (by kernel_rfl) (by simp) ?_
    refine AllReadyH.cons (nthO_at rfl) (fun K hK => ?_) ?_
    · rw [if_pos (by rfl)]
      have HK : Hid _ := hK.out
      clear hK
      go_simp
      refine (spanOf_at b o g cap ps hT x hx _ hk.tree).mono ?_
      rintro e V18 ⟨rfl, hB2⟩
      have hk := hk.below hB2
      clear hB2
      refine HK.out _ _ hk.held (fun hHeld => ?_)
      clear HK K
      try simp only [Act.put, List.setIfInBounds_toArray, List.set_cons_zero, List.set_cons_succ]
      refine wpAnyH_ready (rs := [5, 7]) (by kernel_rfl) (by simp) ?_
      refine AllReadyH.cons (nthO_at rfl) (fun K hK => ?_) ?_
      · rw [if_pos (by rfl)]
        have HK : Hid _ := hK.out
        clear hK
        go_simp
        refine (spanOf_at b o g cap ps hT y hy _ hk.tree).mono ?_
        rintro e V19 ⟨rfl, hB2⟩
        have hk := hk.below hB2
        clear hB2
        refine HK.out _ _ hk.held (fun hHeld => ?_)
        clear HK K
        try simp only [Act.put, List.setIfInBounds_toArray, List.set_cons_zero, List.set_cons_succ]
        refine wpAnyH_ready (rs := [7]) (by kernel_rfl) (by simp) ?_
        refine AllReadyH.cons (nthO_at rfl) (fun K hK => ?_) ?_
        · rw [if_pos (by rfl)]
          have HK : Hid _ := hK.out
          clear hK
          go_simp
          have hk := hk.alloc8
          refine HK.out _ _ hk.held (fun hHeld => ?_)
          clear HK K
          try simp only [Act.put, List.setIfInBounds_toArray, List.set_cons_zero, List.set_cons_succ]
          generalize V19.alloc (.cells #[I64 0, I64 0] 185) = V20 at hk hHeld ⊢
          generalize V19.heap.size = p8 at hk ⊢
          refine doneH (i := 8) rfl (by kernel_rfl) (by rfl) (fun K hK => ?_)
          have HK : Hid _ := hK
          clear hK
          obtain ⟨f0, f1, g0, g1⟩ := hk.at7
          go_simp
          have hk := hk.set7 (ht ps x.s) (ht ps x.t)
          refine HK.out _ _ hk.held (fun hHeld => ?_)
          clear HK K f0 f1 g0 g1
          try simp only [Act.put, List.setIfInBounds_toArray, List.set_cons_zero, List.set_cons_succ]
          refine doneH (i := 9) rfl (by kernel_rfl) (by rfl) (fun K hK => ?_)
          have HK : Hid _ := hK
          clear hK
          obtain ⟨f0, f1, g0, g1⟩ := hk.at8
          go_simp
          have hk := hk.set8 (ht ps y.s) (ht ps y.t)
          refine HK.out _ _ hk.held (fun hHeld => ?_)
          clear HK K f0 f1 g0 g1
          try simp only [Act.put, List.setIfInBounds_toArray, List.set_cons_zero, List.set_cons_succ]
          refine wpAnyH_done (by kernel_rfl) ?_ _
          refine NoPanic.normal ⟨_, _, rfl, ?_, hk⟩
          unfold kFr
          rfl
        exact AllReadyH.nil
      refine AllReadyH.cons (nthO_at rfl) (fun K hK => ?_) ?_
      · rw [if_pos (by rfl)]
        have HK : Hid _ := hK.out
        clear hK
        go_simp
        have hk := hk.alloc8
        refine HK.out _ _ hk.held (fun hHeld => ?_)
        clear HK K
        try simp only [Act.put, List.setIfInBounds_toArray, List.set_cons_zero, List.set_cons_succ]
        generalize V18.alloc (.cells #[I64 0, I64 0] 185) = V21 at hk hHeld ⊢
        generalize V18.heap.size = p8 at hk ⊢
        refine wpAnyH_ready (rs := [5]) (by kernel_rfl) (by simp) ?_
        refine AllReadyH.cons (nthO_at rfl) (fun K hK => ?_) ?_
        · rw [if_pos (by rfl)]
          have HK : Hid _ := hK.out
          clear hK
          go_simp
          refine (spanOf_at b o g cap ps hT y hy _ hk.tree).mono ?_
          rintro e V22 ⟨rfl, hB2⟩
          have hk := hk.below hB2
          clear hB2
          refine HK.out _ _ hk.held (fun hHeld => ?_)
          clear HK K
          try simp only [Act.put, List.setIfInBounds_toArray, List.set_cons_zero, List.set_cons_succ]
          refine doneH (i := 8) rfl (by kernel_rfl) (by rfl) (fun K hK => ?_)
          have HK : Hid _ := hK
          clear hK
          obtain ⟨f0, f1, g0, g1⟩ := hk.at7
          go_simp
          have hk := hk.set7 (ht ps x.s) (ht ps x.t)
          refine HK.out _ _ hk.held (fun hHeld => ?_)
          clear HK K f0 f1 g0 g1
          try simp only [Act.put, List.setIfInBounds_toArray, List.set_cons_zero, List.set_cons_succ]
          refine doneH (i := 9) rfl (by kernel_rfl) (by rfl) (fun K hK => ?_)
          have HK : Hid _ := hK
          clear hK
          obtain ⟨f0, f1, g0, g1⟩ := hk.at8
          go_simp
          have hk := hk.set8 (ht ps y.s) (ht ps y.t)
          refine HK.out _ _ hk.held (fun hHeld => ?_)
          clear HK K f0 f1 g0 g1
          try simp only [Act.put, List.setIfInBounds_toArray, List.set_cons_zero, List.set_cons_succ]
          refine wpAnyH_done (by kernel_rfl) ?_ _
          refine NoPanic.normal ⟨_, _, rfl, ?_, hk⟩
          unfold kFr
          rfl
        exact AllReadyH.nil
      exact AllReadyH.nil
    refine AllReadyH.cons (nthO_at rfl) (fun K hK => ?_) ?_
    · rw [if_pos (by rfl)]
      have HK : Hid _ := hK.out
      clear hK
      go_simp
      have hk := hk.alloc8
      refine HK.out _ _ hk.held (fun hHeld => ?_)
      clear HK K
      try simp only [Act.put, List.setIfInBounds_toArray, List.set_cons_zero, List.set_cons_succ]
      generalize V17.alloc (.cells #[I64 0, I64 0] 185) = V23 at hk hHeld ⊢
      generalize V17.heap.size = p8 at hk ⊢
      refine wpAnyH_ready (rs := [2]) (by kernel_rfl) (by simp) ?_
      refine AllReadyH.cons (nthO_at rfl) (fun K hK => ?_) ?_
      · rw [if_pos (by rfl)]
        have HK : Hid _ := hK.out
        clear hK
        go_simp
        refine (spanOf_at b o g cap ps hT x hx _ hk.tree).mono ?_
        rintro e V24 ⟨rfl, hB2⟩
        have hk := hk.below hB2
        clear hB2
        refine HK.out _ _ hk.held (fun hHeld => ?_)
        clear HK K
        try simp only [Act.put, List.setIfInBounds_toArray, List.set_cons_zero, List.set_cons_succ]
        refine wpAnyH_ready (rs := [5]) (by kernel_rfl) (by simp) ?_
        refine AllReadyH.cons (nthO_at rfl) (fun K hK => ?_) ?_
        · rw [if_pos (by rfl)]
          have HK : Hid _ := hK.out
          clear hK
          go_simp
          refine (spanOf_at b o g cap ps hT y hy _ hk.tree).mono ?_
          rintro e V25 ⟨rfl, hB2⟩
          have hk := hk.below hB2
          clear hB2
          refine HK.out _ _ hk.held (fun hHeld => ?_)
          clear HK K
          try simp only [Act.put, List.setIfInBounds_toArray, List.set_cons_zero, List.set_cons_succ]
          refine doneH (i := 8) rfl (by kernel_rfl) (by rfl) (fun K hK => ?_)
          have HK : Hid _ := hK
          clear hK
          obtain ⟨f0, f1, g0, g1⟩ := hk.at7
          go_simp
          have hk := hk.set7 (ht ps x.s) (ht ps x.t)
          refine HK.out _ _ hk.held (fun hHeld => ?_)
          clear HK K f0 f1 g0 g1
          try simp only [Act.put, List.setIfInBounds_toArray, List.set_cons_zero, List.set_cons_succ]
          refine doneH (i := 9) rfl (by kernel_rfl) (by rfl) (fun K hK => ?_)
          have HK : Hid _ := hK
          clear hK
          obtain ⟨f0, f1, g0, g1⟩ := hk.at8
          go_simp
          have hk := hk.set8 (ht ps y.s) (ht ps y.t)
          refine HK.out _ _ hk.held (fun hHeld => ?_)
          clear HK K f0 f1 g0 g1
          try simp only [Act.put, List.setIfInBounds_toArray, List.set_cons_zero, List.set_cons_succ]
          refine wpAnyH_done (by kernel_rfl) ?_ _
          refine NoPanic.normal ⟨_, _, rfl, ?_, hk⟩
          unfold kFr
          rfl
        exact AllReadyH.nil
      exact AllReadyH.nil
    exact AllReadyH.nil
  refine AllReadyH.cons (nthO_at rfl) (fun K hK => ?_) ?_
  · rw [if_pos (by rfl)]
    have HK : Hid _ := hK.out
    clear hK
    go_simp
    have hk := hk.alloc8
    refine HK.out _ _ hk.held (fun hHeld => ?_)
    clear HK K
    try simp only [Act.put, List.setIfInBounds_toArray, List.set_cons_zero, List.set_cons_succ]
    generalize V0.alloc (.cells #[I64 0, I64 0] 185) = V26 at hk hHeld ⊢
    generalize V0.heap.size = p8 at hk ⊢
    refine wpAnyH_ready (rs := [2, 6]) (by kernel_rfl) (by simp) ?_
    refine AllReadyH.cons (nthO_at rfl) (fun K hK => ?_) ?_
    · rw [if_pos (by rfl)]
      have HK : Hid _ := hK.out
      clear hK
      go_simp
      refine (spanOf_at b o g cap ps hT x hx _ hk.tree).mono ?_
      rintro e V27 ⟨rfl, hB2⟩
      have hk := hk.below hB2
      clear hB2
      refine HK.out _ _ hk.held (fun hHeld => ?_)
      clear HK K
      try simp only [Act.put, List.setIfInBounds_toArray, List.set_cons_zero, List.set_cons_succ]
      refine wpAnyH_ready (rs := [5, 6]) (by kernel_rfl) (by simp) ?_
      refine AllReadyH.cons (nthO_at rfl) (fun K hK => ?_) ?_
      · rw [if_pos (by rfl)]
        have HK : Hid _ := hK.out
        clear hK
        go_simp
        refine (spanOf_at b o g cap ps hT y hy _ hk.tree).mono ?_
        rintro e V28 ⟨rfl, hB2⟩
        have hk := hk.below hB2
        clear hB2
        refine HK.out _ _ hk.held (fun hHeld => ?_)
        clear HK K
        try simp only [Act.put, List.setIfInBounds_toArray, List.set_cons_zero, List.set_cons_succ]
        refine wpAnyH_ready (rs := [6]) (by kernel_rfl) (by simp) ?_
        refine AllReadyH.cons (nthO_at rfl) (fun K hK => ?_) ?_
        · rw [if_pos (by rfl)]
          have HK : Hid _ := hK.out
          clear hK
          go_simp
          have hk := hk.alloc7
          refine HK.out _ _ hk.held (fun hHeld => ?_)
          clear HK K
          try simp only [Act.put, List.setIfInBounds_toArray, List.set_cons_zero, List.set_cons_succ]
          generalize V28.alloc (.cells #[I64 0, I64 0] 185) = V29 at hk hHeld ⊢
          generalize V28.heap.size = p7 at hk ⊢
          refine doneH (i := 8) rfl (by kernel_rfl) (by rfl) (fun K hK => ?_)
          have HK : Hid _ := hK
          clear hK
          obtain ⟨f0, f1, g0, g1⟩ := hk.at7
          go_simp
          have hk := hk.set7 (ht ps x.s) (ht ps x.t)
          refine HK.out _ _ hk.held (fun hHeld => ?_)
          clear HK K f0 f1 g0 g1
          try simp only [Act.put, List.setIfInBounds_toArray, List.set_cons_zero, List.set_cons_succ]
          refine doneH (i := 9) rfl (by kernel_rfl) (by rfl) (fun K hK => ?_)
          have HK : Hid _ := hK
          clear hK
          obtain ⟨f0, f1, g0, g1⟩ := hk.at8
          go_simp
          have hk := hk.set8 (ht ps y.s) (ht ps y.t)
          refine HK.out _ _ hk.held (fun hHeld => ?_)
          clear HK K f0 f1 g0 g1
          try simp only [Act.put, List.setIfInBounds_toArray, List.set_cons_zero, List.set_cons_succ]
          refine wpAnyH_done (by kernel_rfl) ?_ _
          refine NoPanic.normal ⟨_, _, rfl, ?_, hk⟩
          unfold kFr
          rfl
        exact AllReadyH.nil
      refine AllReadyH.cons (nthO_at rfl) (fun K hK => ?_) ?_
      · rw [if_pos (by rfl)]
        have HK : Hid _ := hK.out
        clear hK
        go_simp
        have hk := hk.alloc7
        refine HK.out _ _ hk.held (fun hHeld => ?_)
        clear HK K
        try simp only [Act.put, List.setIfInBounds_toArray, List.set_cons_zero, List.set_cons_succ]
        generalize V27.alloc (.cells #[I64 0, I64 0] 185) = V30 at hk hHeld ⊢
        generalize V27.heap.size = p7 at hk ⊢
        refine wpAnyH_ready (rs := [5]) (by kernel_rfl) (by simp) ?_
        refine AllReadyH.cons (nthO_at rfl) (fun K hK => ?_) ?_
        · rw [if_pos (by rfl)]
          have HK : Hid _ := hK.out
          clear hK
          go_simp
          refine (spanOf_at b o g cap ps hT y hy _ hk.tree).mono ?_
          rintro e V31 ⟨rfl, hB2⟩
          have hk := hk.below hB2
          clear hB2
          refine HK.out _ _ hk.held (fun hHeld => ?_)
          clear HK K
          try simp only [Act.put, List.setIfInBounds_toArray, List.set_cons_zero, List.set_cons_succ]
          refine doneH (i := 8) rfl (by kernel_rfl) (by rfl) (fun K hK => ?_)
          have HK : Hid _ := hK
          clear hK
          obtain ⟨f0, f1, g0, g1⟩ := hk.at7
          go_simp
          have hk := hk.set7 (ht ps x.s) (ht ps x.t)
          refine HK.out _ _ hk.held (fun hHeld => ?_)
          clear HK K f0 f1 g0 g1
          try simp only [Act.put, List.setIfInBounds_toArray, List.set_cons_zero, List.set_cons_succ]
          refine doneH (i := 9) rfl (by kernel_rfl) (by rfl) (fun K hK => ?_)
          have HK : Hid _ := hK
          clear hK
          obtain ⟨f0, f1, g0, g1⟩ := hk.at8
          go_simp
          have hk := hk.set8 (ht ps y.s) (ht ps y.t)
          refine HK.out _ _ hk.held (fun hHeld => ?_)
          clear HK K f0 f1 g0 g1
          try simp only [Act.put, List.setIfInBounds_toArray, List.set_cons_zero, List.set_cons_succ]
          refine wpAnyH_done (by kernel_rfl) ?_ _
          refine NoPanic.normal ⟨_, _, rfl, ?_, hk⟩
          unfold kFr
          rfl
        exact AllReadyH.nil
      exact AllReadyH.nil
    refine AllReadyH.cons (nthO_at rfl) (fun K hK => ?_) ?_
    · rw [if_pos (by rfl)]
      have HK : Hid _ := hK.out
      clear hK
      go_simp
      have hk := hk.alloc7
      refine HK.out _ _ hk.held (fun hHeld => ?_)
      clear HK K
      try simp only [Act.put, List.setIfInBounds_toArray, List.set_cons_zero, List.set_cons_succ]
      generalize V26.alloc (.cells #[I64 0, I64 0] 185) = V32 at hk hHeld ⊢
      generalize V26.heap.size = p7 at hk ⊢
      refine wpAnyH_ready (rs := [2]) (by kernel_rfl) (by simp) ?_
      refine AllReadyH.cons (nthO_at rfl) (fun K hK => ?_) ?_
      · rw [if_pos (by rfl)]
        have HK : Hid _ := hK.out
        clear hK
        go_simp
        refine (spanOf_at b o g cap ps hT x hx _ hk.tree).mono ?_
        rintro e V33 ⟨rfl, hB2⟩
        have hk := hk.below hB2
        clear hB2
        refine HK.out _ _ hk.held (fun hHeld => ?_)
        clear HK K
        try simp only [Act.put, List.setIfInBounds_toArray, List.set_cons_zero, List.set_cons_succ]
        refine wpAnyH_ready (rs := [5]) (by kernel_rfl) (by simp) ?_
        refine AllReadyH.cons (nthO_at rfl) (fun K hK => ?_) ?_
        · rw [if_pos (by rfl)]
          have HK : Hid _ := hK.out
          clear hK
          go_simp
          refine (spanOf_at b o g cap ps hT y hy _ hk.tree).mono ?_
          rintro e V34 ⟨rfl, hB2⟩
          have hk := hk.below hB2
          clear hB2
          refine HK.out _ _ hk.held (fun hHeld => ?_)
          clear HK K
          try simp only [Act.put, List.setIfInBounds_toArray, List.set_cons_zero, List.set_cons_succ]
          refine doneH (i := 8) rfl (by kernel_rfl) (by rfl) (fun K hK => ?_)
          have HK : Hid _ := hK
          clear hK
          obtain ⟨f0, f1, g0, g1⟩ := hk.at7
          go_simp
          have hk := hk.set7 (ht ps x.s) (ht ps x.t)
          refine HK.out _ _ hk.held (fun hHeld => ?_)
          clear HK K f0 f1 g0 g1
          try simp only [Act.put, List.setIfInBounds_toArray, List.set_cons_zero, List.set_cons_succ]
          refine doneH (i := 9) rfl (by kernel_rfl) (by rfl) (fun K hK => ?_)
          have HK : Hid _ := hK
          clear hK
          obtain ⟨f0, f1, g0, g1⟩ := hk.at8
          go_simp
          have hk := hk.set8 (ht ps y.s) (ht ps y.t)
          refine HK.out _ _ hk.held (fun hHeld => ?_)
          clear HK K f0 f1 g0 g1
          try simp only [Act.put, List.setIfInBounds_toArray, List.set_cons_zero, List.set_cons_succ]
          refine wpAnyH_done (by kernel_rfl) ?_ _
          refine NoPanic.normal ⟨_, _, rfl, ?_, hk⟩
          unfold kFr
          rfl
        exact AllReadyH.nil
      exact AllReadyH.nil
    exact AllReadyH.nil
  exact AllReadyH.nil
end Go.Proofs.YtgebcnnenhgkcaaGreat
/- guilt.First: the first of other votes that nobody may give beside one. -/
namespace Go.Proofs.YtgebcnnenhgkcaaGreat
open Go.RowKit

theorem okB_of {n : Nat} {ps : List Int} {vs : List Vt} (hT : Tree ps) (h : OkV n ps vs) {y : Vt} (hy : y ∈ vs) : OkB ps y := by
  obtain ⟨t0, t1⟩ := h.t y hy
  have := mem_up_lt hT t0 t1 (ahead_mem.1 (h.a y hy))
  exact ⟨by omega, by omega, t0, t1⟩
theorem kind_any (b o g cap : Nat) (ps : List Int) (hT : Tree ps) (x y : Vt) (hv : x.v = y.v) (hx : OkB ps x) (hy : OkB ps y) (w : World) (hA : TreeAt w b o g cap ps) :
    Calls Tryz.prog 157 #[.pointer (some ⟨b, o, none⟩), x.val, y.val] w fun e w' => e = .returned (.int .i64 (kindI ps x y)) ∧ Below w.heap.size w w' := by
  cases he : x.is y
  · exact kind_at b o g cap ps hT x y he hv hx hy w hA
  · exact kind_same b o ps x y he w

abbrev Gu.val (g : Gu) : Value := .agg #[I64 g.v, I64 g.k, I64 g.a.v, I64 g.a.s, I64 g.a.t, I64 g.b.v, I64 g.b.s, I64 g.b.t]
abbrev guV : Option Gu → Value
  | some g => g.val
  | none => .agg #[I64 0, I64 0, I64 0, I64 0, I64 0, I64 0, I64 0, I64 0]
/-- Eight stores into a block of eight. -/
def put8 (W : World) (n : Nat) (a0 a1 a2 a3 a4 a5 a6 a7 : Value) : World := (((((((W.setCell ⟨n, 0, none⟩ a0).setCell ⟨n, 1, none⟩ a1).setCell ⟨n, 2, none⟩ a2).setCell ⟨n, 3, none⟩ a3).setCell ⟨n, 4, none⟩ a4).setCell ⟨n, 5, none⟩ a5).setCell ⟨n, 6, none⟩ a6).setCell ⟨n, 7, none⟩ a7
theorem put8_heap {W : World} {n : Nat} {c0 c1 c2 c3 c4 c5 c6 c7 : Value} {t : TypeId} (h : W.heap[n]? = some (.cells #[c0, c1, c2, c3, c4, c5, c6, c7] t (0, 0))) (a0 a1 a2 a3 a4 a5 a6 a7 : Value) : (put8 W n a0 a1 a2 a3 a4 a5 a6 a7).heap[n]? = some (.cells #[a0, a1, a2, a3, a4, a5, a6, a7] t (0, 0)) := by
  unfold put8
  have h0 : (W.setCell ⟨n, 0, none⟩ a0).heap[n]? = some (.cells #[a0, c1, c2, c3, c4, c5, c6, c7] t (0, 0)) := heap_setCell_same _ n 0 _ _ _ h
  have h1 : ((W.setCell ⟨n, 0, none⟩ a0).setCell ⟨n, 1, none⟩ a1).heap[n]? = some (.cells #[a0, a1, c2, c3, c4, c5, c6, c7] t (0, 0)) := heap_setCell_same _ n 1 _ _ _ h0
  have h2 : (((W.setCell ⟨n, 0, none⟩ a0).setCell ⟨n, 1, none⟩ a1).setCell ⟨n, 2, none⟩ a2).heap[n]? = some (.cells #[a0, a1, a2, c3, c4, c5, c6, c7] t (0, 0)) := heap_setCell_same _ n 2 _ _ _ h1
  have h3 : ((((W.setCell ⟨n, 0, none⟩ a0).setCell ⟨n, 1, none⟩ a1).setCell ⟨n, 2, none⟩ a2).setCell ⟨n, 3, none⟩ a3).heap[n]? = some (.cells #[a0, a1, a2, a3, c4, c5, c6, c7] t (0, 0)) := heap_setCell_same _ n 3 _ _ _ h2
  have h4 : (((((W.setCell ⟨n, 0, none⟩ a0).setCell ⟨n, 1, none⟩ a1).setCell ⟨n, 2, none⟩ a2).setCell ⟨n, 3, none⟩ a3).setCell ⟨n, 4, none⟩ a4).heap[n]? = some (.cells #[a0, a1, a2, a3, a4, c5, c6, c7] t (0, 0)) := heap_setCell_same _ n 4 _ _ _ h3
  have h5 : ((((((W.setCell ⟨n, 0, none⟩ a0).setCell ⟨n, 1, none⟩ a1).setCell ⟨n, 2, none⟩ a2).setCell ⟨n, 3, none⟩ a3).setCell ⟨n, 4, none⟩ a4).setCell ⟨n, 5, none⟩ a5).heap[n]? = some (.cells #[a0, a1, a2, a3, a4, a5, c6, c7] t (0, 0)) := heap_setCell_same _ n 5 _ _ _ h4
  have h6 : (((((((W.setCell ⟨n, 0, none⟩ a0).setCell ⟨n, 1, none⟩ a1).setCell ⟨n, 2, none⟩ a2).setCell ⟨n, 3, none⟩ a3).setCell ⟨n, 4, none⟩ a4).setCell ⟨n, 5, none⟩ a5).setCell ⟨n, 6, none⟩ a6).heap[n]? = some (.cells #[a0, a1, a2, a3, a4, a5, a6, c7] t (0, 0)) := heap_setCell_same _ n 6 _ _ _ h5
  have h7 : ((((((((W.setCell ⟨n, 0, none⟩ a0).setCell ⟨n, 1, none⟩ a1).setCell ⟨n, 2, none⟩ a2).setCell ⟨n, 3, none⟩ a3).setCell ⟨n, 4, none⟩ a4).setCell ⟨n, 5, none⟩ a5).setCell ⟨n, 6, none⟩ a6).setCell ⟨n, 7, none⟩ a7).heap[n]? = some (.cells #[a0, a1, a2, a3, a4, a5, a6, a7] t (0, 0)) := heap_setCell_same _ n 7 _ _ _ h6
  exact h7
theorem put8_below {w W : World} {B n : Nat} (h : Below B w W) (hn : B ≤ n) (a0 a1 a2 a3 a4 a5 a6 a7 : Value) : Below B w (put8 W n a0 a1 a2 a3 a4 a5 a6 a7) := by
  unfold put8
  exact (((((((h.setCell (p := ⟨n, 0, none⟩) hn _).setCell (p := ⟨n, 1, none⟩) hn _).setCell (p := ⟨n, 2, none⟩) hn _).setCell (p := ⟨n, 3, none⟩) hn _).setCell (p := ⟨n, 4, none⟩) hn _).setCell (p := ⟨n, 5, none⟩) hn _).setCell (p := ⟨n, 6, none⟩) hn _).setCell (p := ⟨n, 7, none⟩) hn _
theorem eight_cells {W : World} {n : Nat} {c0 c1 c2 c3 c4 c5 c6 c7 : Value} {t : TypeId} (h : W.heap[n]? = some (.cells #[c0, c1, c2, c3, c4, c5, c6, c7] t (0, 0))) : W.cell? ⟨n, 0, none⟩ = some c0 ∧ W.cell? ⟨n, 1, none⟩ = some c1 ∧ W.cell? ⟨n, 2, none⟩ = some c2 ∧ W.cell? ⟨n, 3, none⟩ = some c3 ∧ W.cell? ⟨n, 4, none⟩ = some c4 ∧ W.cell? ⟨n, 5, none⟩ = some c5 ∧ W.cell? ⟨n, 6, none⟩ = some c6 ∧ W.cell? ⟨n, 7, none⟩ = some c7 := by
  refine ⟨?_, ?_, ?_, ?_, ?_, ?_, ?_, ?_⟩ <;> (rw [cell_of_heap h]; rfl)

theorem find_none_take {f : Vt → Bool} {l : List Vt} {j : Nat} {y : Vt} (h : (l.take j).find? f = none) (hy : l[j]? = some y) : (l.take (j + 1)).find? f = if f y = true then some y else none := by
  rw [List.take_add_one, hy, List.find?_append, h]
  by_cases e : f y = true <;> simp [e]
theorem find_some_take {f : Vt → Bool} {l : List Vt} {j : Nat} {y : Vt} (h : (l.take j).find? f = some y) : l.find? f = some y := by
  rw [← List.take_append_drop j l, List.find?_append, h]; rfl

/-- Votes as they lie from a place of a block on. -/
def VCellsO (w : World) (g o : Nat) (vs : List Vt) : Prop :=
  ∀ j x, vs[j]? = some x → w.cell? ⟨g, o + j * 3, none⟩ = some (I64 x.v) ∧ w.cell? ⟨g, o + j * 3 + 1, none⟩ = some (I64 x.s) ∧ w.cell? ⟨g, o + j * 3 + 2, none⟩ = some (I64 x.t)
def VLiesO (w : World) (p : Option Addr) (vs : List Vt) : Prop := vs = [] ∨ ∃ g o, p = some ⟨g, o, none⟩ ∧ VCellsO w g o vs
theorem VCellsO.below {w w' : World} {g o B : Nat} {vs : List Vt} (h : VCellsO w g o vs) (hB : Below B w w') (hg : g < B) : VCellsO w' g o vs := fun j x hj => by
  obtain ⟨h0, h1, h2⟩ := h j x hj
  exact ⟨(hB.cell (p := ⟨g, o + j * 3, none⟩) hg).trans h0, (hB.cell (p := ⟨g, o + j * 3 + 1, none⟩) hg).trans h1, (hB.cell (p := ⟨g, o + j * 3 + 2, none⟩) hg).trans h2⟩
theorem VCellsO.lt {w : World} {g o : Nat} {vs : List Vt} (h : VCellsO w g o vs) (hp : 0 < vs.length) : g < w.heap.size := by
  obtain ⟨x, hx⟩ : ∃ x, vs[0]? = some x := ⟨_, List.getElem?_eq_getElem hp⟩
  exact World.block_lt_of_cell? w _ (h 0 x hx).1

def firstG (ps : List Int) (x : Vt) (L : List Vt) : Option Gu := (L.find? (fun y => decide (kindI ps x y ≠ 0))).map fun y => ⟨x.v, kindI ps x y, x, y⟩

set_option maxRecDepth 100000 in
set_option maxHeartbeats 4000000 in
theorem first_at (b o g cap : Nat) (ps : List Int) (hT : Tree ps) (x : Vt) (L : List Vt) (p : Option Addr) (c : Nat) (w : World) (hA : TreeAt w b o g cap ps) (hx : OkB ps x) (hM : ∀ y ∈ L, x.v = y.v ∧ OkB ps y) (hL : VLiesO w p L) (hl : L.length ≤ 300) :
    Calls Tryz.prog 141 #[.pointer (some ⟨b, o, none⟩), x.val, .slice p L.length c] w fun e w' => e = .returned (.tuple #[guV (firstG ps x L), .bool (firstG ps x L).isSome]) ∧ Below w.heap.size w w' := by
  have hlb := hA.lt_b
  have hlg := hA.lt_g hT.1
  have HM : Hid (∀ y ∈ L, x.v = y.v ∧ OkB ps y) := hM
  clear hM
  go_enter Tryz.func141, Tryz.ntmps141
  go_wp2_with fail
  obtain ⟨W0, hW0⟩ : ∃ W0, (w.alloc (.cells #[I64 x.v, I64 x.s, I64 x.t] 47)).alloc (.cells #[I64 0, I64 0, I64 0, I64 0, I64 0, I64 0, I64 0, I64 0] 84) = W0 := ⟨_, rfl⟩
  have hz0 : W0.heap.size = w.heap.size + 1 + 1 := by rw [← hW0]; simp
  have hB0 : Below w.heap.size w W0 := by rw [← hW0]; exact ((Below.refl _ w).alloc (Nat.le_refl _) _).alloc (by simp) _
  have hx0 : W0.heap[w.heap.size]? = some (.cells #[I64 x.v, I64 x.s, I64 x.t] 47 (0, 0)) := by rw [← hW0, Below.heap_alloc _ _ _ (by simp)]; exact heap_alloc_new w _
  have hr0 : W0.heap[w.heap.size + 1]? = some (.cells #[I64 0, I64 0, I64 0, I64 0, I64 0, I64 0, I64 0, I64 0] 84 (0, 0)) := by rw [← hW0]; have := heap_alloc_new (w.alloc (.cells #[I64 x.v, I64 x.s, I64 x.t] 47)) (.cells #[I64 0, I64 0, I64 0, I64 0, I64 0, I64 0, I64 0, I64 0] 84); simpa using this
  rw [hW0]
  clear hW0
  obtain ⟨n, hn⟩ : ∃ n, w.heap.size = n := ⟨_, rfl⟩
  rw [hn] at hz0 hB0 hx0 hr0 ⊢
  have hlb : b < n := by omega
  have hlg : g < n := by omega
  have hA0 : TreeAt W0 b o g cap ps := hA.below hB0 (by omega) (by omega)
  have hL0 : VLiesO W0 p L := by
    rcases hL with e | ⟨gv, ov, e, hc⟩
    · exact .inl e
    · by_cases h0 : 0 < L.length
      · exact .inr ⟨gv, ov, e, hc.below hB0 (by have := hc.lt h0; omega)⟩
      · exact .inl (List.length_eq_zero_iff.1 (by omega))
  have HNN : Hid (w.heap.size = n) := hn
  clear hn hA hL
  go_loopw [13] (fun jj wr => ∃ j : Nat, j ≤ L.length ∧ jj = .int .i64 j ∧ Below W0.heap.size W0 wr ∧ Hid ((L.take j).find? (fun y => decide (kindI ps x y ≠ 0)) = none)) (fun jj _ => L.length - (intOf jj).toNat)
  case atStart => exact ⟨0, by omega, rfl, Below.refl _ _, by simp [Hid]⟩
  case round =>
    obtain ⟨j, hj, rfl, hB, hF⟩ := hrel
    have hz := hB.size
    have hxr : wr.heap[n]? = some (.cells #[I64 x.v, I64 x.s, I64 x.t] 47 (0, 0)) := (hB.block _ (by omega)).trans hx0
    have hrr : wr.heap[n + 1]? = some (.cells #[I64 0, I64 0, I64 0, I64 0, I64 0, I64 0, I64 0, I64 0] 84 (0, 0)) := (hB.block _ (by omega)).trans hr0
    have hBn : Below n w wr := hB0.trans (hB.mono (by omega))
    by_cases hlt : j < L.length
    · have hlt' : (j : Int) < (L.length : Int) := by omega
      rcases hL0 with rfl | ⟨gv, ov, rfl, hcs⟩
      · simp at hlt
      obtain ⟨y, hy⟩ : ∃ y, L[j]? = some y := ⟨_, List.getElem?_eq_getElem hlt⟩
      have hgl := hcs.lt (by omega)
      obtain ⟨hc0, hc1, hc2⟩ := hcs.below hB hgl j y hy
      obtain ⟨hyv, hyb⟩ := HM.out y (List.mem_of_getElem? hy)
      have HFN : Hid ((L.take (j + 1)).find? (fun y => decide (kindI ps x y ≠ 0)) = if decide (kindI ps x y ≠ 0) = true then some y else none) := find_none_take hF.out hy
      have HV : Hid (x.v = y.v) := hyv
      clear hy hyv hF hcs
      have k0 : wr.cell? ⟨n, 0, none⟩ = some (I64 x.v) := by rw [cell_of_heap hxr]; rfl
      have k1 : wr.cell? ⟨n, 1, none⟩ = some (I64 x.s) := by rw [cell_of_heap hxr]; rfl
      have k2 : wr.cell? ⟨n, 2, none⟩ = some (I64 x.t) := by rw [cell_of_heap hxr]; rfl
      have hnl : n < wr.heap.size := by omega
      go_wp2_with fail
      obtain ⟨wy, hwy⟩ : ∃ wy, wr.alloc (.cells #[I64 y.v, I64 y.s, I64 y.t] 47) = wy := ⟨_, rfl⟩
      have hBy : Below wr.heap.size wr wy := by rw [← hwy]; exact (Below.refl _ wr).alloc (Nat.le_refl _) _
      have hyz : wy.heap.size = wr.heap.size + 1 := by rw [← hwy]; simp
      have hyo : wy.heap[wr.heap.size]? = some (.cells #[I64 y.v, I64 y.s, I64 y.t] 47 (0, 0)) := by rw [← hwy]; exact heap_alloc_new wr _
      rw [hwy]
      clear hwy
      have hAy : TreeAt wy b o g cap ps := hA0.below (hB.trans (hBy.mono (by omega))) (by omega) (by omega)
      refine (kind_any b o g cap ps hT x y HV.out hx hyb _ hAy).mono ?_
      rintro e W3 ⟨rfl, hB4⟩
      have hB5 : Below wr.heap.size wr W3 := hBy.trans (hB4.mono (by omega))
      have hyo3 : W3.heap[wr.heap.size]? = some (.cells #[I64 y.v, I64 y.s, I64 y.t] 47 (0, 0)) := (hB4.block _ (by omega)).trans hyo
      have hxr3 := (hB5.block n hnl).trans hxr
      have hrr3 := (hB5.block (n + 1) (by omega)).trans hrr
      have hB6 : Below W0.heap.size W0 W3 := hB.trans (hB5.mono (by omega))
      have hB7 : Below n w W3 := hBn.trans (hB5.mono (by omega))
      obtain ⟨ny, hny⟩ : ∃ ny, wr.heap.size = ny := ⟨_, rfl⟩
      rw [hny] at hyo3 ⊢
      clear hyo hBy hyz k0 k1 k2 hc0 hc1 hc2 hxr hrr hB4 hAy hny
      obtain ⟨kd, hkd⟩ : ∃ kd, kindI ps x y = kd := ⟨_, rfl⟩
      rw [hkd]
      have HFN' : Hid ((L.take (j + 1)).find? (fun y => decide (kindI ps x y ≠ 0)) = if decide (kd ≠ 0) = true then some y else none) := by show _ = _; rw [HFN.out, hkd]
      have HKD : Hid (kindI ps x y = kd) := hkd
      clear hkd HFN
      have m0 : W3.cell? ⟨n, 0, none⟩ = some (I64 x.v) := by rw [cell_of_heap hxr3]; rfl
      have m1 : W3.cell? ⟨n, 1, none⟩ = some (I64 x.s) := by rw [cell_of_heap hxr3]; rfl
      have m2 : W3.cell? ⟨n, 2, none⟩ = some (I64 x.t) := by rw [cell_of_heap hxr3]; rfl
      have m3 : W3.cell? ⟨ny, 0, none⟩ = some (I64 y.v) := by rw [cell_of_heap hyo3]; rfl
      have m4 : W3.cell? ⟨ny, 1, none⟩ = some (I64 y.s) := by rw [cell_of_heap hyo3]; rfl
      have m5 : W3.cell? ⟨ny, 2, none⟩ = some (I64 y.t) := by rw [cell_of_heap hyo3]; rfl
      have HRW : Hid _ := hrr3
      have z0 : W3.cell? ⟨n + 1, 0, none⟩ = some (I64 0) := by rw [cell_of_heap hrr3]; rfl
      have z1 : W3.cell? ⟨n + 1, 1, none⟩ = some (I64 0) := by rw [cell_of_heap hrr3]; rfl
      have z2 : W3.cell? ⟨n + 1, 2, none⟩ = some (I64 0) := by rw [cell_of_heap hrr3]; rfl
      have z3 : W3.cell? ⟨n + 1, 3, none⟩ = some (I64 0) := by rw [cell_of_heap hrr3]; rfl
      have z4 : W3.cell? ⟨n + 1, 4, none⟩ = some (I64 0) := by rw [cell_of_heap hrr3]; rfl
      have z5 : W3.cell? ⟨n + 1, 5, none⟩ = some (I64 0) := by rw [cell_of_heap hrr3]; rfl
      have z6 : W3.cell? ⟨n + 1, 6, none⟩ = some (I64 0) := by rw [cell_of_heap hrr3]; rfl
      have z7 : W3.cell? ⟨n + 1, 7, none⟩ = some (I64 0) := by rw [cell_of_heap hrr3]; rfl
      have fz : ∀ o, W3.frozen? ⟨n + 1, o, none⟩ = false := fun o => frozen_of_heap hrr3 o
      clear hxr3 hrr3 hyo3
      by_cases hkz : kd = 0
      · have q : (kd != 0) = false := by simpa using hkz
        have HF2 : Hid ((L.take (j + 1)).find? (fun y => decide (kindI ps x y ≠ 0)) = none) := by show _ = _; rw [HFN'.out, hkz]; rfl
        clear HFN' hkz
        go_wp2
        go_roundw
        case rel => exact ⟨j + 1, by omega, by go_num, hB6, HF2⟩
        case measure => simp [intOf]; omega
      · have q : (kd != 0) = true := by simpa using hkz
        have HR : Hid (firstG ps x L = some ⟨x.v, kd, x, y⟩) := by
          show _ = _
          have e1 : L.find? (fun y => decide (kindI ps x y ≠ 0)) = some y := find_some_take (j := j + 1) (by rw [HFN'.out]; simp [hkz])
          unfold firstG
          rw [e1]
          simp [HKD.out]
        clear HFN' hkz
        go_wp2
        have h8 := put8_heap HRW.out (I64 x.v) (I64 kd) (I64 x.v) (I64 x.s) (I64 x.t) (I64 y.v) (I64 y.s) (I64 y.t)
        obtain ⟨y0, y1, y2, y3, y4, y5, y6, y7⟩ := eight_cells h8
        unfold put8 at y0 y1 y2 y3 y4 y5 y6 y7
        refine ⟨rfl, .tuple #[guV (firstG ps x L), .bool (firstG ps x L).isSome], ?_, rfl, by rw [HNN.out]; exact put8_below (n := n + 1) hB7 (by omega) _ _ _ _ _ _ _ _⟩
        rw [HR.out]
        simp only [results, Tryz.f141]
        simp [go_sem, y0, y1, y2, y3, y4, y5, y6, y7]
    · have hj' : j = L.length := by omega
      have HN : Hid (firstG ps x L = none) := by
        have hF' := hF.out
        rw [List.take_of_length_le (by omega)] at hF'
        show _ = _
        unfold firstG
        rw [hF']; rfl
      have HRW : Hid _ := hrr
      have z0 : wr.cell? ⟨n + 1, 0, none⟩ = some (I64 0) := by rw [cell_of_heap hrr]; rfl
      have z1 : wr.cell? ⟨n + 1, 1, none⟩ = some (I64 0) := by rw [cell_of_heap hrr]; rfl
      have z2 : wr.cell? ⟨n + 1, 2, none⟩ = some (I64 0) := by rw [cell_of_heap hrr]; rfl
      have z3 : wr.cell? ⟨n + 1, 3, none⟩ = some (I64 0) := by rw [cell_of_heap hrr]; rfl
      have z4 : wr.cell? ⟨n + 1, 4, none⟩ = some (I64 0) := by rw [cell_of_heap hrr]; rfl
      have z5 : wr.cell? ⟨n + 1, 5, none⟩ = some (I64 0) := by rw [cell_of_heap hrr]; rfl
      have z6 : wr.cell? ⟨n + 1, 6, none⟩ = some (I64 0) := by rw [cell_of_heap hrr]; rfl
      have z7 : wr.cell? ⟨n + 1, 7, none⟩ = some (I64 0) := by rw [cell_of_heap hrr]; rfl
      have fz : ∀ o, wr.frozen? ⟨n + 1, o, none⟩ = false := fun o => frozen_of_heap hrr o
      clear hrr hxr hF hj' hL0
      go_wp2
      have h8 := put8_heap HRW.out (I64 0) (I64 0) (I64 0) (I64 0) (I64 0) (I64 0) (I64 0) (I64 0)
      obtain ⟨y0, y1, y2, y3, y4, y5, y6, y7⟩ := eight_cells h8
      unfold put8 at y0 y1 y2 y3 y4 y5 y6 y7
      refine ⟨rfl, .tuple #[guV (firstG ps x L), .bool (firstG ps x L).isSome], ?_, rfl, by rw [HNN.out]; exact put8_below (n := n + 1) hBn (by omega) _ _ _ _ _ _ _ _⟩
      rw [HN.out]
      simp only [results, Tryz.f141]
      simp [go_sem, y0, y1, y2, y3, y4, y5, y6, y7]
end Go.Proofs.YtgebcnnenhgkcaaGreat
