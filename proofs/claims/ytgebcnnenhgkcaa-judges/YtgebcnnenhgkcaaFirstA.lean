/- guilt.First: the first of other votes that nobody may give beside one. -/
import Derived.Test.YtgebcnnenhgkcaaKindA
import Derived.Test.YtgebcnnenhgkcaaHeld
namespace Go.Proofs.Ytgebcnnenhgkcaa
open Go.RowKit

theorem okB_of {n : Nat} {ps : List Int} {vs : List Vt} (hT : Tree ps) (h : OkV n ps vs) {y : Vt} (hy : y ∈ vs) : OkB ps y := by
  obtain ⟨t0, t1⟩ := h.t y hy
  have := mem_up_lt hT t0 t1 (ahead_mem.1 (h.a y hy))
  exact ⟨by omega, by omega, t0, t1⟩
theorem kind_any (b o g cap : Nat) (ps : List Int) (hT : Tree ps) (x y : Vt) (hv : x.v = y.v) (hx : OkB ps x) (hy : OkB ps y) (w : World) (hA : TreeAt w b o g cap ps) :
    Calls Try.prog 107 #[.pointer (some ⟨b, o, none⟩), x.val, y.val] w fun e w' => e = .returned (.int .i64 (kindI ps x y)) ∧ Below w.heap.size w w' := by
  cases he : x.is y
  · exact kind_at b o g cap ps hT x y he hv hx hy w hA
  · exact kind_same b o ps x y he w

abbrev Gu.val (g : Gu) : Value := .agg #[I64 g.v, I64 g.k, I64 g.a.v, I64 g.a.s, I64 g.a.t, I64 g.b.v, I64 g.b.s, I64 g.b.t]
abbrev guV : Option Gu → Value
  | some g => g.val
  | none => .agg #[I64 0, I64 0, I64 0, I64 0, I64 0, I64 0, I64 0, I64 0]
/-- Eight stores into a block of eight. -/
def put8 (W : World) (n : Nat) (a0 a1 a2 a3 a4 a5 a6 a7 : Value) : World := (((((((W.setCell ⟨n, 0, none⟩ a0).setCell ⟨n, 1, none⟩ a1).setCell ⟨n, 2, none⟩ a2).setCell ⟨n, 3, none⟩ a3).setCell ⟨n, 4, none⟩ a4).setCell ⟨n, 5, none⟩ a5).setCell ⟨n, 6, none⟩ a6).setCell ⟨n, 7, none⟩ a7
theorem put8_heap {W : World} {n : Nat} {c0 c1 c2 c3 c4 c5 c6 c7 : Value} {t : TypeId} (h : W.heap[n]? = some (.cells #[c0, c1, c2, c3, c4, c5, c6, c7] t (0, 0))) (a0 a1 a2 a3 a4 a5 a6 a7 : Value) : (put8 W n a0 a1 a2 a3 a4 a5 a6 a7).heap[n]? = some (.cells #[a0, a1, a2, a3, a4, a5, a6, a7] t (0, 0)) := by
  unfold put8
  have h0 : (W.setCell ⟨n, 0, none⟩ a0).heap[n]? = some (.cells #[a0, c1, c2, c3, c4, c5, c6, c7] t (0, 0)) := heap_setCell_same _ n 0 _ _ _ h
  have h1 : ((W.setCell ⟨n, 0, none⟩ a0).setCell ⟨n, 1, none⟩ a1).heap[n]? = some (.cells #[a0, a1, c2, c3, c4, c5, c6, c7] t (0, 0)) := heap_setCell_same _ n 1 _ _ _ h0
  have h2 : (((W.setCell ⟨n, 0, none⟩ a0).setCell ⟨n, 1, none⟩ a1).setCell ⟨n, 2, none⟩ a2).heap[n]? = some (.cells #[a0, a1, a2, c3, c4, c5, c6, c7] t (0, 0)) := heap_setCell_same _ n 2 _ _ _ h1
  have h3 : ((((W.setCell ⟨n, 0, none⟩ a0).setCell ⟨n, 1, none⟩ a1).setCell ⟨n, 2, none⟩ a2).setCell ⟨n, 3, none⟩ a3).heap[n]? = some (.cells #[a0, a1, a2, a3, c4, c5, c6, c7] t (0, 0)) := heap_setCell_same _ n 3 _ _ _ h2
  have h4 : (((((W.setCell ⟨n, 0, none⟩ a0).setCell ⟨n, 1, none⟩ a1).setCell ⟨n, 2, none⟩ a2).setCell ⟨n, 3, none⟩ a3).setCell ⟨n, 4, none⟩ a4).heap[n]? = some (.cells #[a0, a1, a2, a3, a4, c5, c6, c7] t (0, 0)) := heap_setCell_same _ n 4 _ _ _ h3
  have h5 : ((((((W.setCell ⟨n, 0, none⟩ a0).setCell ⟨n, 1, none⟩ a1).setCell ⟨n, 2, none⟩ a2).setCell ⟨n, 3, none⟩ a3).setCell ⟨n, 4, none⟩ a4).setCell ⟨n, 5, none⟩ a5).heap[n]? = some (.cells #[a0, a1, a2, a3, a4, a5, c6, c7] t (0, 0)) := heap_setCell_same _ n 5 _ _ _ h4
  have h6 : (((((((W.setCell ⟨n, 0, none⟩ a0).setCell ⟨n, 1, none⟩ a1).setCell ⟨n, 2, none⟩ a2).setCell ⟨n, 3, none⟩ a3).setCell ⟨n, 4, none⟩ a4).setCell ⟨n, 5, none⟩ a5).setCell ⟨n, 6, none⟩ a6).heap[n]? = some (.cells #[a0, a1, a2, a3, a4, a5, a6, c7] t (0, 0)) := heap_setCell_same _ n 6 _ _ _ h5
  have h7 : ((((((((W.setCell ⟨n, 0, none⟩ a0).setCell ⟨n, 1, none⟩ a1).setCell ⟨n, 2, none⟩ a2).setCell ⟨n, 3, none⟩ a3).setCell ⟨n, 4, none⟩ a4).setCell ⟨n, 5, none⟩ a5).setCell ⟨n, 6, none⟩ a6).setCell ⟨n, 7, none⟩ a7).heap[n]? = some (.cells #[a0, a1, a2, a3, a4, a5, a6, a7] t (0, 0)) := heap_setCell_same _ n 7 _ _ _ h6
  exact h7
theorem put8_below {w W : World} {B n : Nat} (h : Below B w W) (hn : B ≤ n) (a0 a1 a2 a3 a4 a5 a6 a7 : Value) : Below B w (put8 W n a0 a1 a2 a3 a4 a5 a6 a7) := by
  unfold put8
  exact (((((((h.setCell (p := ⟨n, 0, none⟩) hn _).setCell (p := ⟨n, 1, none⟩) hn _).setCell (p := ⟨n, 2, none⟩) hn _).setCell (p := ⟨n, 3, none⟩) hn _).setCell (p := ⟨n, 4, none⟩) hn _).setCell (p := ⟨n, 5, none⟩) hn _).setCell (p := ⟨n, 6, none⟩) hn _).setCell (p := ⟨n, 7, none⟩) hn _
theorem eight_cells {W : World} {n : Nat} {c0 c1 c2 c3 c4 c5 c6 c7 : Value} {t : TypeId} (h : W.heap[n]? = some (.cells #[c0, c1, c2, c3, c4, c5, c6, c7] t (0, 0))) : W.cell? ⟨n, 0, none⟩ = some c0 ∧ W.cell? ⟨n, 1, none⟩ = some c1 ∧ W.cell? ⟨n, 2, none⟩ = some c2 ∧ W.cell? ⟨n, 3, none⟩ = some c3 ∧ W.cell? ⟨n, 4, none⟩ = some c4 ∧ W.cell? ⟨n, 5, none⟩ = some c5 ∧ W.cell? ⟨n, 6, none⟩ = some c6 ∧ W.cell? ⟨n, 7, none⟩ = some c7 := by
  refine ⟨?_, ?_, ?_, ?_, ?_, ?_, ?_, ?_⟩ <;> (rw [cell_of_heap h]; rfl)

theorem find_none_take {f : Vt → Bool} {l : List Vt} {j : Nat} {y : Vt} (h : (l.take j).find? f = none) (hy : l[j]? = some y) : (l.take (j + 1)).find? f = if f y = true then some y else none := by
  rw [List.take_add_one, hy, List.find?_append, h]
  by_cases e : f y = true <;> simp [e]
theorem find_some_take {f : Vt → Bool} {l : List Vt} {j : Nat} {y : Vt} (h : (l.take j).find? f = some y) : l.find? f = some y := by
  rw [← List.take_append_drop j l, List.find?_append, h]; rfl

/-- Votes as they lie from a place of a block on. -/
def VCellsO (w : World) (g o : Nat) (vs : List Vt) : Prop :=
  ∀ j x, vs[j]? = some x → w.cell? ⟨g, o + j * 3, none⟩ = some (I64 x.v) ∧ w.cell? ⟨g, o + j * 3 + 1, none⟩ = some (I64 x.s) ∧ w.cell? ⟨g, o + j * 3 + 2, none⟩ = some (I64 x.t)
def VLiesO (w : World) (p : Option Addr) (vs : List Vt) : Prop := vs = [] ∨ ∃ g o, p = some ⟨g, o, none⟩ ∧ VCellsO w g o vs
theorem VCellsO.below {w w' : World} {g o B : Nat} {vs : List Vt} (h : VCellsO w g o vs) (hB : Below B w w') (hg : g < B) : VCellsO w' g o vs := fun j x hj => by
  obtain ⟨h0, h1, h2⟩ := h j x hj
  exact ⟨(hB.cell (p := ⟨g, o + j * 3, none⟩) hg).trans h0, (hB.cell (p := ⟨g, o + j * 3 + 1, none⟩) hg).trans h1, (hB.cell (p := ⟨g, o + j * 3 + 2, none⟩) hg).trans h2⟩
theorem VCellsO.lt {w : World} {g o : Nat} {vs : List Vt} (h : VCellsO w g o vs) (hp : 0 < vs.length) : g < w.heap.size := by
  obtain ⟨x, hx⟩ : ∃ x, vs[0]? = some x := ⟨_, List.getElem?_eq_getElem hp⟩
  exact World.block_lt_of_cell? w _ (h 0 x hx).1

def firstG (ps : List Int) (x : Vt) (L : List Vt) : Option Gu := (L.find? (fun y => decide (kindI ps x y ≠ 0))).map fun y => ⟨x.v, kindI ps x y, x, y⟩

set_option maxRecDepth 100000 in
set_option maxHeartbeats 4000000 in
theorem first_at (b o g cap : Nat) (ps : List Int) (hT : Tree ps) (x : Vt) (L : List Vt) (p : Option Addr) (c : Nat) (w : World) (hA : TreeAt w b o g cap ps) (hx : OkB ps x) (hM : ∀ y ∈ L, x.v = y.v ∧ OkB ps y) (hL : VLiesO w p L) (hl : L.length ≤ 300) :
    Calls Try.prog 88 #[.pointer (some ⟨b, o, none⟩), x.val, .slice p L.length c] w fun e w' => e = .returned (.tuple #[guV (firstG ps x L), .bool (firstG ps x L).isSome]) ∧ Below w.heap.size w w' := by
  have hlb := hA.lt_b
  have hlg := hA.lt_g hT.1
  have HM : Hid (∀ y ∈ L, x.v = y.v ∧ OkB ps y) := hM
  clear hM
  go_enter Try.func88, Try.ntmps88
  go_wp2_with fail
  obtain ⟨W0, hW0⟩ : ∃ W0, (w.alloc (.cells #[I64 x.v, I64 x.s, I64 x.t] 70)).alloc (.cells #[I64 0, I64 0, I64 0, I64 0, I64 0, I64 0, I64 0, I64 0] 73) = W0 := ⟨_, rfl⟩
  have hz0 : W0.heap.size = w.heap.size + 1 + 1 := by rw [← hW0]; simp
  have hB0 : Below w.heap.size w W0 := by rw [← hW0]; exact ((Below.refl _ w).alloc (Nat.le_refl _) _).alloc (by simp) _
  have hx0 : W0.heap[w.heap.size]? = some (.cells #[I64 x.v, I64 x.s, I64 x.t] 70 (0, 0)) := by rw [← hW0, Below.heap_alloc _ _ _ (by simp)]; exact heap_alloc_new w _
  have hr0 : W0.heap[w.heap.size + 1]? = some (.cells #[I64 0, I64 0, I64 0, I64 0, I64 0, I64 0, I64 0, I64 0] 73 (0, 0)) := by rw [← hW0]; have := heap_alloc_new (w.alloc (.cells #[I64 x.v, I64 x.s, I64 x.t] 70)) (.cells #[I64 0, I64 0, I64 0, I64 0, I64 0, I64 0, I64 0, I64 0] 73); simpa using this
  rw [hW0]
  clear hW0
  obtain ⟨n, hn⟩ : ∃ n, w.heap.size = n := ⟨_, rfl⟩
  rw [hn] at hz0 hB0 hx0 hr0 ⊢
  have hlb : b < n := by omega
  have hlg : g < n := by omega
  have hA0 : TreeAt W0 b o g cap ps := hA.below hB0 (by omega) (by omega)
  have hL0 : VLiesO W0 p L := by
    rcases hL with e | ⟨gv, ov, e, hc⟩
    · exact .inl e
    · by_cases h0 : 0 < L.length
      · exact .inr ⟨gv, ov, e, hc.below hB0 (by have := hc.lt h0; omega)⟩
      · exact .inl (List.length_eq_zero_iff.1 (by omega))
  have HNN : Hid (w.heap.size = n) := hn
  clear hn hA hL
  go_loopw [13] (fun jj wr => ∃ j : Nat, j ≤ L.length ∧ jj = .int .i64 j ∧ Below W0.heap.size W0 wr ∧ Hid ((L.take j).find? (fun y => decide (kindI ps x y ≠ 0)) = none)) (fun jj _ => L.length - (intOf jj).toNat)
  case atStart => exact ⟨0, by omega, rfl, Below.refl _ _, by simp [Hid]⟩
  case round =>
    obtain ⟨j, hj, rfl, hB, hF⟩ := hrel
    have hz := hB.size
    have hxr : wr.heap[n]? = some (.cells #[I64 x.v, I64 x.s, I64 x.t] 70 (0, 0)) := (hB.block _ (by omega)).trans hx0
    have hrr : wr.heap[n + 1]? = some (.cells #[I64 0, I64 0, I64 0, I64 0, I64 0, I64 0, I64 0, I64 0] 73 (0, 0)) := (hB.block _ (by omega)).trans hr0
    have hBn : Below n w wr := hB0.trans (hB.mono (by omega))
    by_cases hlt : j < L.length
    · have hlt' : (j : Int) < (L.length : Int) := by omega
      rcases hL0 with rfl | ⟨gv, ov, rfl, hcs⟩
      · simp at hlt
      obtain ⟨y, hy⟩ : ∃ y, L[j]? = some y := ⟨_, List.getElem?_eq_getElem hlt⟩
      have hgl := hcs.lt (by omega)
      obtain ⟨hc0, hc1, hc2⟩ := hcs.below hB hgl j y hy
      obtain ⟨hyv, hyb⟩ := HM.out y (List.mem_of_getElem? hy)
      have HFN : Hid ((L.take (j + 1)).find? (fun y => decide (kindI ps x y ≠ 0)) = if decide (kindI ps x y ≠ 0) = true then some y else none) := find_none_take hF.out hy
      have HV : Hid (x.v = y.v) := hyv
      clear hy hyv hF hcs
      have k0 : wr.cell? ⟨n, 0, none⟩ = some (I64 x.v) := by rw [cell_of_heap hxr]; rfl
      have k1 : wr.cell? ⟨n, 1, none⟩ = some (I64 x.s) := by rw [cell_of_heap hxr]; rfl
      have k2 : wr.cell? ⟨n, 2, none⟩ = some (I64 x.t) := by rw [cell_of_heap hxr]; rfl
      have hnl : n < wr.heap.size := by omega
      go_wp2_with fail
      obtain ⟨wy, hwy⟩ : ∃ wy, wr.alloc (.cells #[I64 y.v, I64 y.s, I64 y.t] 70) = wy := ⟨_, rfl⟩
      have hBy : Below wr.heap.size wr wy := by rw [← hwy]; exact (Below.refl _ wr).alloc (Nat.le_refl _) _
      have hyz : wy.heap.size = wr.heap.size + 1 := by rw [← hwy]; simp
      have hyo : wy.heap[wr.heap.size]? = some (.cells #[I64 y.v, I64 y.s, I64 y.t] 70 (0, 0)) := by rw [← hwy]; exact heap_alloc_new wr _
      rw [hwy]
      clear hwy
      have hAy : TreeAt wy b o g cap ps := hA0.below (hB.trans (hBy.mono (by omega))) (by omega) (by omega)
      refine (kind_any b o g cap ps hT x y HV.out hx hyb _ hAy).mono ?_
      rintro e W3 ⟨rfl, hB4⟩
      have hB5 : Below wr.heap.size wr W3 := hBy.trans (hB4.mono (by omega))
      have hyo3 : W3.heap[wr.heap.size]? = some (.cells #[I64 y.v, I64 y.s, I64 y.t] 70 (0, 0)) := (hB4.block _ (by omega)).trans hyo
      have hxr3 := (hB5.block n hnl).trans hxr
      have hrr3 := (hB5.block (n + 1) (by omega)).trans hrr
      have hB6 : Below W0.heap.size W0 W3 := hB.trans (hB5.mono (by omega))
      have hB7 : Below n w W3 := hBn.trans (hB5.mono (by omega))
      obtain ⟨ny, hny⟩ : ∃ ny, wr.heap.size = ny := ⟨_, rfl⟩
      rw [hny] at hyo3 ⊢
      clear hyo hBy hyz k0 k1 k2 hc0 hc1 hc2 hxr hrr hB4 hAy hny
      obtain ⟨kd, hkd⟩ : ∃ kd, kindI ps x y = kd := ⟨_, rfl⟩
      rw [hkd]
      have HFN' : Hid ((L.take (j + 1)).find? (fun y => decide (kindI ps x y ≠ 0)) = if decide (kd ≠ 0) = true then some y else none) := by show _ = _; rw [HFN.out, hkd]
      have HKD : Hid (kindI ps x y = kd) := hkd
      clear hkd HFN
      have m0 : W3.cell? ⟨n, 0, none⟩ = some (I64 x.v) := by rw [cell_of_heap hxr3]; rfl
      have m1 : W3.cell? ⟨n, 1, none⟩ = some (I64 x.s) := by rw [cell_of_heap hxr3]; rfl
      have m2 : W3.cell? ⟨n, 2, none⟩ = some (I64 x.t) := by rw [cell_of_heap hxr3]; rfl
      have m3 : W3.cell? ⟨ny, 0, none⟩ = some (I64 y.v) := by rw [cell_of_heap hyo3]; rfl
      have m4 : W3.cell? ⟨ny, 1, none⟩ = some (I64 y.s) := by rw [cell_of_heap hyo3]; rfl
      have m5 : W3.cell? ⟨ny, 2, none⟩ = some (I64 y.t) := by rw [cell_of_heap hyo3]; rfl
      have HRW : Hid _ := hrr3
      have z0 : W3.cell? ⟨n + 1, 0, none⟩ = some (I64 0) := by rw [cell_of_heap hrr3]; rfl
      have z1 : W3.cell? ⟨n + 1, 1, none⟩ = some (I64 0) := by rw [cell_of_heap hrr3]; rfl
      have z2 : W3.cell? ⟨n + 1, 2, none⟩ = some (I64 0) := by rw [cell_of_heap hrr3]; rfl
      have z3 : W3.cell? ⟨n + 1, 3, none⟩ = some (I64 0) := by rw [cell_of_heap hrr3]; rfl
      have z4 : W3.cell? ⟨n + 1, 4, none⟩ = some (I64 0) := by rw [cell_of_heap hrr3]; rfl
      have z5 : W3.cell? ⟨n + 1, 5, none⟩ = some (I64 0) := by rw [cell_of_heap hrr3]; rfl
      have z6 : W3.cell? ⟨n + 1, 6, none⟩ = some (I64 0) := by rw [cell_of_heap hrr3]; rfl
      have z7 : W3.cell? ⟨n + 1, 7, none⟩ = some (I64 0) := by rw [cell_of_heap hrr3]; rfl
      have fz : ∀ o, W3.frozen? ⟨n + 1, o, none⟩ = false := fun o => frozen_of_heap hrr3 o
      clear hxr3 hrr3 hyo3
      by_cases hkz : kd = 0
      · have q : (kd != 0) = false := by simpa using hkz
        have HF2 : Hid ((L.take (j + 1)).find? (fun y => decide (kindI ps x y ≠ 0)) = none) := by show _ = _; rw [HFN'.out, hkz]; rfl
        clear HFN' hkz
        go_wp2
        go_roundw
        case rel => exact ⟨j + 1, by omega, by go_num, hB6, HF2⟩
        case measure => simp [intOf]; omega
      · have q : (kd != 0) = true := by simpa using hkz
        have HR : Hid (firstG ps x L = some ⟨x.v, kd, x, y⟩) := by
          show _ = _
          have e1 : L.find? (fun y => decide (kindI ps x y ≠ 0)) = some y := find_some_take (j := j + 1) (by rw [HFN'.out]; simp [hkz])
          unfold firstG
          rw [e1]
          simp [HKD.out]
        clear HFN' hkz
        go_wp2
        have h8 := put8_heap HRW.out (I64 x.v) (I64 kd) (I64 x.v) (I64 x.s) (I64 x.t) (I64 y.v) (I64 y.s) (I64 y.t)
        obtain ⟨y0, y1, y2, y3, y4, y5, y6, y7⟩ := eight_cells h8
        unfold put8 at y0 y1 y2 y3 y4 y5 y6 y7
        refine ⟨rfl, .tuple #[guV (firstG ps x L), .bool (firstG ps x L).isSome], ?_, rfl, by rw [HNN.out]; exact put8_below (n := n + 1) hB7 (by omega) _ _ _ _ _ _ _ _⟩
        rw [HR.out]
        simp only [results, Try.f88]
        simp [go_sem, y0, y1, y2, y3, y4, y5, y6, y7]
    · have hj' : j = L.length := by omega
      have HN : Hid (firstG ps x L = none) := by
        have hF' := hF.out
        rw [List.take_of_length_le (by omega)] at hF'
        show _ = _
        unfold firstG
        rw [hF']; rfl
      have HRW : Hid _ := hrr
      have z0 : wr.cell? ⟨n + 1, 0, none⟩ = some (I64 0) := by rw [cell_of_heap hrr]; rfl
      have z1 : wr.cell? ⟨n + 1, 1, none⟩ = some (I64 0) := by rw [cell_of_heap hrr]; rfl
      have z2 : wr.cell? ⟨n + 1, 2, none⟩ = some (I64 0) := by rw [cell_of_heap hrr]; rfl
      have z3 : wr.cell? ⟨n + 1, 3, none⟩ = some (I64 0) := by rw [cell_of_heap hrr]; rfl
      have z4 : wr.cell? ⟨n + 1, 4, none⟩ = some (I64 0) := by rw [cell_of_heap hrr]; rfl
      have z5 : wr.cell? ⟨n + 1, 5, none⟩ = some (I64 0) := by rw [cell_of_heap hrr]; rfl
      have z6 : wr.cell? ⟨n + 1, 6, none⟩ = some (I64 0) := by rw [cell_of_heap hrr]; rfl
      have z7 : wr.cell? ⟨n + 1, 7, none⟩ = some (I64 0) := by rw [cell_of_heap hrr]; rfl
      have fz : ∀ o, wr.frozen? ⟨n + 1, o, none⟩ = false := fun o => frozen_of_heap hrr o
      clear hrr hxr hF hj' hL0
      go_wp2
      have h8 := put8_heap HRW.out (I64 0) (I64 0) (I64 0) (I64 0) (I64 0) (I64 0) (I64 0) (I64 0)
      obtain ⟨y0, y1, y2, y3, y4, y5, y6, y7⟩ := eight_cells h8
      unfold put8 at y0 y1 y2 y3 y4 y5 y6 y7
      refine ⟨rfl, .tuple #[guV (firstG ps x L), .bool (firstG ps x L).isSome], ?_, rfl, by rw [HNN.out]; exact put8_below (n := n + 1) hBn (by omega) _ _ _ _ _ _ _ _⟩
      rw [HN.out]
      simp only [results, Try.f88]
      simp [go_sem, y0, y1, y2, y3, y4, y5, y6, y7]
end Go.Proofs.Ytgebcnnenhgkcaa
