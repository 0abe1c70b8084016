/- votesOf, guiltOf, guilty, Guilty. -/
import Derived.Test.YtmphfgcfkfpppaaGreatKindA
import Derived.Test.YtmphfgcfkfpppaaGreatFinalA
import Derived.Test.YtmphfgcfkfpppaaGreatHeld
namespace Go.Proofs.YtmphfgcfkfpppaaGreat
open Go.RowKit

theorem cells_one (w : World) (cs : Array Value) (t : TypeId) : ∀ j u, cs.toList[j]? = some u → (w.alloc (.cells cs t)).cell? ((⟨w.heap.size, 0, none⟩ : Addr).add j) = some u := by
  intro j u hj
  have h := heap_alloc_new w (.cells cs t)
  have e : ((⟨w.heap.size, 0, none⟩ : Addr).add j) = ⟨w.heap.size, j, none⟩ := by
    by_cases h0 : j = 0
    · subst h0; simp [Addr.add]
    · simp [Addr.add, h0]
  rw [e, cell_of_heap h]
  simpa using hj
theorem cells_two (w : World) (o : Obj) (cs : Array Value) (t : TypeId) : ∀ j u, cs.toList[j]? = some u → ((w.alloc o).alloc (.cells cs t)).cell? ((⟨w.heap.size + 1, 0, none⟩ : Addr).add j) = some u := by
  have := cells_one (w.alloc o) cs t
  simpa using this
theorem ofV_take {vs : List Vt} {k : Nat} {y : Vt} (u : Int) (h : vs[k]? = some y) : ofV (vs.take (k + 1)) u = ofV (vs.take k) u ++ (if y.v = u then [y] else []) := by
  rw [List.take_add_one, h]
  unfold ofV
  by_cases e : y.v = u
  · simp [List.filter_append, e]
  · have e' : (y.v == u) = false := by simpa using e
    simp [List.filter_append, e, e']

set_option maxRecDepth 100000 in
set_option maxHeartbeats 2000000 in
theorem votesOf_at (b : Nat) (S : Nat → Prop) (m : Int) (ws ps : List Int) (vs : List Vt) (wv pv vv : Value) (u : Int) (w : World) (h : CourtAt w b S m ws ps vs wv pv vv) (hl : vs.length ≤ 300) :
    Calls Tryz.prog 123 #[.pointer (some ⟨b, 0, none⟩), .int .i64 u] w fun e w' => (∃ v, e = .returned v ∧ w'.ownsRow w.heap.size 47 3 v (ofV vs u).length (vtRow (ofV vs u))) ∧ Below w.heap.size w w' := by
  have hbl := h.lt b h.inb
  have h4 := h.c4
  obtain ⟨vp, vc, hvv⟩ : ∃ vp vc, vv = .slice vp vs.length vc := by
    rcases h.vrow.2 with ⟨h', h''⟩ | ⟨g, cap, cur, h', _⟩
    · exact ⟨none, 0, by rw [h', h'']⟩
    · exact ⟨_, _, h'⟩
  subst hvv
  obtain ⟨i0, hi, hz0, hz1, hz2⟩ := info_parts info_vote
  go_enter Tryz.func123, Tryz.ntmps123
  go_wp2
  go_loopw [5, 13] (fun v i wr => ∃ k : Nat, k ≤ vs.length ∧ i = .int .i64 k ∧ Below w.heap.size w wr ∧ wr.ownsRow w.heap.size 47 3 v (ofV (vs.take k) u).length (vtRow (ofV (vs.take k) u))) (fun _ i _ => vs.length - (intOf i).toNat)
  case atStart => exact ⟨0, by omega, rfl, Below.refl _ _, World.ownsRow_nil _ _ _ _⟩
  case round =>
    obtain ⟨k, hk, rfl, hB, hown⟩ := hrel
    have hz := hB.size
    by_cases hlt : k < vs.length
    · obtain ⟨gv, cap, hgv, _, _, hc, _⟩ := vrow_open h.vrow (by omega)
      simp only [Value.slice.injEq, true_and] at hgv
      obtain ⟨rfl, rfl⟩ := hgv
      have hgl : gv < w.heap.size := VCells.lt hc (by omega)
      obtain ⟨y, hy⟩ : ∃ y, vs[k]? = some y := ⟨_, List.getElem?_eq_getElem hlt⟩
      obtain ⟨hc0, hc1, hc2⟩ := VCells.below hc hB hgl k y hy
      have HN : Hid _ := ofV_take u hy
      clear hc hy
      have hlt' : (k : Int) < (vs.length : Int) := by omega
      have hbr : b < wr.heap.size := by omega
      have hBn := hB.alloc hz (.cells #[I64 y.v, I64 y.s, I64 y.t] 47)
      obtain ⟨L, hL⟩ : ∃ L, ofV (vs.take k) u = L := ⟨_, rfl⟩
      have hnk : L.length ≤ k := by
        rw [← hL]; unfold ofV
        exact Nat.le_trans (List.length_filter_le _ _) (by simp; omega)
      rw [hL] at hown
      have HL : Hid (ofV (vs.take k) u = L) := hL
      clear hL
      by_cases e1 : y.v = u
      · have q1 : (y.v == u) = true := by simpa using e1
        have HE : Hid (ofV (vs.take (k + 1)) u = L ++ [y]) := by show _ = _; rw [HN.out, HL.out, if_pos e1]
        clear e1 HN
        have h63 : Hid (L.length + 1 ≤ maxLen) := by show _ ≤ _; unfold maxLen; omega
        go_wp2_with (at_builtin; refine wpList_append_own _ (by rfl) _ _ _ (by rfl) w.heap.size 47 i0 (.agg #[I64 0, I64 0, I64 0]) 3 24 Tryz.underlying39 hi hz0 hz1 hz2 rfl (by omega) _ L.length (vtRow L) (by rfl) ((hown.alloc _).alloc _) ⟨wr.heap.size + 1, 0, none⟩ 1 1 [I64 y.v, I64 y.s, I64 y.t] (by rfl) (by rfl) (cells_two _ _ #[I64 y.v, I64 y.s, I64 y.t] _) (by simp [Value.oneCell']) h63.out (by omega) (by simp; omega) ?_; intro v1 w1 hown1 hgrow1 hnil1)
        go_roundw
        case rel => exact ⟨k + 1, by omega, by go_num, (hBn.alloc (by simp; omega) _).grown hgrow1 (by simp; omega) (fun j e => (hown.lt j e).1), by rw [HE.out, vtRow_append, List.length_append]; exact hown1⟩
        case measure => simp [intOf]; omega
      · have q1 : (y.v == u) = false := by simpa using e1
        have HE : Hid (ofV (vs.take (k + 1)) u = L) := by show _ = _; rw [HN.out, HL.out, if_neg e1, List.append_nil]
        clear e1 HN
        go_wp2
        go_roundw
        case rel => exact ⟨k + 1, by omega, by go_num, hBn, by rw [HE.out]; exact hown.alloc _⟩
        case measure => simp [intOf]; omega
    · have hk' : k = vs.length := by omega
      subst hk'
      rw [List.take_length] at hown
      go_wp2
      go_ret
      exact ⟨⟨_, rfl, hown⟩, hB⟩

theorem okB_of {n : Nat} {ps : List Int} {vs : List Vt} (hT : Tree ps) (h : OkV n ps vs) {y : Vt} (hy : y ∈ vs) : OkB ps y := by
  obtain ⟨t0, t1⟩ := h.t y hy
  have := mem_up_lt hT t0 t1 (ahead_mem.1 (h.a y hy))
  exact ⟨by omega, by omega, t0, t1⟩
theorem kind_any (b o g cap : Nat) (ps : List Int) (hT : Tree ps) (x y : Vt) (hv : x.v = y.v) (hx : OkB ps x) (hy : OkB ps y) (w : World) (hA : TreeAt w b o g cap ps) :
    Calls Tryz.prog 124 #[.pointer (some ⟨b, o, none⟩), x.val, y.val] w fun e w' => e = .returned (.int .i64 (kindI ps x y)) ∧ Below w.heap.size w w' := by
  cases he : x.is y
  · exact kind_at b o g cap ps hT x y he hv hx hy w hA
  · exact kind_same b o ps x y he w

abbrev Gu.val (g : Gu) : Value := .agg #[I64 g.v, I64 g.k, I64 g.a.v, I64 g.a.s, I64 g.a.t, I64 g.b.v, I64 g.b.s, I64 g.b.t]
abbrev guV : Option Gu → Value
  | some g => g.val
  | none => .agg #[I64 0, I64 0, I64 0, I64 0, I64 0, I64 0, I64 0, I64 0]
/-- Eight stores into a block of eight. -/
def put8 (W : World) (n : Nat) (a0 a1 a2 a3 a4 a5 a6 a7 : Value) : World := (((((((W.setCell ⟨n, 0, none⟩ a0).setCell ⟨n, 1, none⟩ a1).setCell ⟨n, 2, none⟩ a2).setCell ⟨n, 3, none⟩ a3).setCell ⟨n, 4, none⟩ a4).setCell ⟨n, 5, none⟩ a5).setCell ⟨n, 6, none⟩ a6).setCell ⟨n, 7, none⟩ a7
theorem put8_heap {W : World} {n : Nat} {c0 c1 c2 c3 c4 c5 c6 c7 : Value} {t : TypeId} (h : W.heap[n]? = some (.cells #[c0, c1, c2, c3, c4, c5, c6, c7] t (0, 0))) (a0 a1 a2 a3 a4 a5 a6 a7 : Value) : (put8 W n a0 a1 a2 a3 a4 a5 a6 a7).heap[n]? = some (.cells #[a0, a1, a2, a3, a4, a5, a6, a7] t (0, 0)) := by
  unfold put8
  have h0 : (W.setCell ⟨n, 0, none⟩ a0).heap[n]? = some (.cells #[a0, c1, c2, c3, c4, c5, c6, c7] t (0, 0)) := heap_setCell_same _ n 0 _ _ _ h
  have h1 : ((W.setCell ⟨n, 0, none⟩ a0).setCell ⟨n, 1, none⟩ a1).heap[n]? = some (.cells #[a0, a1, c2, c3, c4, c5, c6, c7] t (0, 0)) := heap_setCell_same _ n 1 _ _ _ h0
  have h2 : (((W.setCell ⟨n, 0, none⟩ a0).setCell ⟨n, 1, none⟩ a1).setCell ⟨n, 2, none⟩ a2).heap[n]? = some (.cells #[a0, a1, a2, c3, c4, c5, c6, c7] t (0, 0)) := heap_setCell_same _ n 2 _ _ _ h1
  have h3 : ((((W.setCell ⟨n, 0, none⟩ a0).setCell ⟨n, 1, none⟩ a1).setCell ⟨n, 2, none⟩ a2).setCell ⟨n, 3, none⟩ a3).heap[n]? = some (.cells #[a0, a1, a2, a3, c4, c5, c6, c7] t (0, 0)) := heap_setCell_same _ n 3 _ _ _ h2
  have h4 : (((((W.setCell ⟨n, 0, none⟩ a0).setCell ⟨n, 1, none⟩ a1).setCell ⟨n, 2, none⟩ a2).setCell ⟨n, 3, none⟩ a3).setCell ⟨n, 4, none⟩ a4).heap[n]? = some (.cells #[a0, a1, a2, a3, a4, c5, c6, c7] t (0, 0)) := heap_setCell_same _ n 4 _ _ _ h3
  have h5 : ((((((W.setCell ⟨n, 0, none⟩ a0).setCell ⟨n, 1, none⟩ a1).setCell ⟨n, 2, none⟩ a2).setCell ⟨n, 3, none⟩ a3).setCell ⟨n, 4, none⟩ a4).setCell ⟨n, 5, none⟩ a5).heap[n]? = some (.cells #[a0, a1, a2, a3, a4, a5, c6, c7] t (0, 0)) := heap_setCell_same _ n 5 _ _ _ h4
  have h6 : (((((((W.setCell ⟨n, 0, none⟩ a0).setCell ⟨n, 1, none⟩ a1).setCell ⟨n, 2, none⟩ a2).setCell ⟨n, 3, none⟩ a3).setCell ⟨n, 4, none⟩ a4).setCell ⟨n, 5, none⟩ a5).setCell ⟨n, 6, none⟩ a6).heap[n]? = some (.cells #[a0, a1, a2, a3, a4, a5, a6, c7] t (0, 0)) := heap_setCell_same _ n 6 _ _ _ h5
  have h7 : ((((((((W.setCell ⟨n, 0, none⟩ a0).setCell ⟨n, 1, none⟩ a1).setCell ⟨n, 2, none⟩ a2).setCell ⟨n, 3, none⟩ a3).setCell ⟨n, 4, none⟩ a4).setCell ⟨n, 5, none⟩ a5).setCell ⟨n, 6, none⟩ a6).setCell ⟨n, 7, none⟩ a7).heap[n]? = some (.cells #[a0, a1, a2, a3, a4, a5, a6, a7] t (0, 0)) := heap_setCell_same _ n 7 _ _ _ h6
  exact h7
theorem put8_below {w W : World} {B n : Nat} (h : Below B w W) (hn : B ≤ n) (a0 a1 a2 a3 a4 a5 a6 a7 : Value) : Below B w (put8 W n a0 a1 a2 a3 a4 a5 a6 a7) := by
  unfold put8
  exact (((((((h.setCell (p := ⟨n, 0, none⟩) hn _).setCell (p := ⟨n, 1, none⟩) hn _).setCell (p := ⟨n, 2, none⟩) hn _).setCell (p := ⟨n, 3, none⟩) hn _).setCell (p := ⟨n, 4, none⟩) hn _).setCell (p := ⟨n, 5, none⟩) hn _).setCell (p := ⟨n, 6, none⟩) hn _).setCell (p := ⟨n, 7, none⟩) hn _
theorem eight_cells {W : World} {n : Nat} {c0 c1 c2 c3 c4 c5 c6 c7 : Value} {t : TypeId} (h : W.heap[n]? = some (.cells #[c0, c1, c2, c3, c4, c5, c6, c7] t (0, 0))) : W.cell? ⟨n, 0, none⟩ = some c0 ∧ W.cell? ⟨n, 1, none⟩ = some c1 ∧ W.cell? ⟨n, 2, none⟩ = some c2 ∧ W.cell? ⟨n, 3, none⟩ = some c3 ∧ W.cell? ⟨n, 4, none⟩ = some c4 ∧ W.cell? ⟨n, 5, none⟩ = some c5 ∧ W.cell? ⟨n, 6, none⟩ = some c6 ∧ W.cell? ⟨n, 7, none⟩ = some c7 := by
  refine ⟨?_, ?_, ?_, ?_, ?_, ?_, ?_, ?_⟩ <;> (rw [cell_of_heap h]; rfl)

theorem find_none_take {f : Vt → Bool} {l : List Vt} {j : Nat} {y : Vt} (h : (l.take j).find? f = none) (hy : l[j]? = some y) : (l.take (j + 1)).find? f = if f y = true then some y else none := by
  rw [List.take_add_one, hy, List.find?_append, h]
  by_cases e : f y = true <;> simp [e]
theorem find_some_take {f : Vt → Bool} {l : List Vt} {j : Nat} {y : Vt} (h : (l.take j).find? f = some y) : l.find? f = some y := by
  rw [← List.take_append_drop j l, List.find?_append, h]; rfl
theorem pairF_drop {K : Vt → Vt → Int} {L : List Vt} {i : Nat} {x : Vt} (h : L[i]? = some x) : pairF K (L.drop i) = match (L.drop (i + 1)).find? (fun y => decide (K x y ≠ 0)) with | some y => some (K x y, x, y) | none => pairF K (L.drop (i + 1)) := by
  have hlt : i < L.length := (List.getElem?_eq_some_iff.1 h).1
  rw [List.drop_eq_getElem_cons hlt]
  have : L[i] = x := (List.getElem?_eq_some_iff.1 h).2
  rw [this]; rfl

set_option maxRecDepth 100000 in
set_option maxHeartbeats 4000000 in
theorem guiltOf_at (b : Nat) (S : Nat → Prop) (m : Int) (ws ps : List Int) (vs : List Vt) (wv pv vv : Value) (u : Int) (w : World) (h : CourtAt w b S m ws ps vs wv pv vv) (hT : Tree ps) (hl : vs.length ≤ 300) (hO : OkV ws.length ps vs) :
    Calls Tryz.prog 104 #[.pointer (some ⟨b, 0, none⟩), .int .i64 u] w fun e w' => e = .returned (.tuple #[guV (guiltV ps vs u), .bool (guiltV ps vs u).isSome]) ∧ Below w.heap.size w w' := by
  have hBa : Below w.heap.size w (w.alloc (.cells #[I64 0, I64 0, I64 0, I64 0, I64 0, I64 0, I64 0, I64 0] 98)) := (Below.refl _ w).alloc (Nat.le_refl _) _
  have ha := h.kept (Chg.of_below (fun _ => False) hBa) (fun _ _ hf => hf)
  go_enter Tryz.func104, Tryz.ntmps104
  go_wp2_with fail
  obtain ⟨wa, hwa⟩ : ∃ wa, w.alloc (.cells #[I64 0, I64 0, I64 0, I64 0, I64 0, I64 0, I64 0, I64 0] 98) = wa := ⟨_, rfl⟩
  have hra : wa.heap[w.heap.size]? = some (.cells #[I64 0, I64 0, I64 0, I64 0, I64 0, I64 0, I64 0, I64 0] 98 (0, 0)) := by rw [← hwa]; exact heap_alloc_new w _
  have hza : wa.heap.size = w.heap.size + 1 := by rw [← hwa]; simp
  rw [hwa] at ha hBa ⊢
  clear hwa
  refine (votesOf_at b S m ws ps vs _ _ _ u _ ha hl).mono ?_
  rintro e w1 ⟨⟨v, rfl, hrow⟩, hB1⟩
  obtain ⟨L, hL⟩ : ∃ L, ofV vs u = L := ⟨_, rfl⟩
  rw [hL] at hrow
  have HG : Hid (guiltV ps vs u = (pairF (kindI ps) L).map fun p => ⟨u, p.1, p.2.1, p.2.2⟩) := by show _ = _; unfold guiltV; rw [hL]
  have HM : Hid (∀ y ∈ L, y.v = u ∧ OkB ps y) := by
    show ∀ y ∈ L, _
    intro y hy
    rw [← hL] at hy
    unfold ofV at hy
    simp only [List.mem_filter, beq_iff_eq] at hy
    exact ⟨hy.2, okB_of hT hO hy.1⟩
  have hLl : L.length ≤ 300 := by rw [← hL]; exact Nat.le_trans (List.length_filter_le _ _) hl
  clear hL
  obtain ⟨vp, vc, hvv⟩ : ∃ vp vc, v = .slice vp L.length vc := by
    rcases hrow.2 with ⟨h', h''⟩ | ⟨g, cap, cur, h', _⟩
    · exact ⟨none, 0, by rw [h', h'']⟩
    · exact ⟨_, _, h'⟩
  subst hvv
  have h1 := ha.kept (Chg.of_below (fun _ => False) hB1) (fun _ _ hf => hf)
  have hr1 : w1.heap[w.heap.size]? = some (.cells #[I64 0, I64 0, I64 0, I64 0, I64 0, I64 0, I64 0, I64 0] 98 (0, 0)) := (hB1.block _ (by omega)).trans hra
  have hz1 := hB1.size
  have hBw : Below w.heap.size w w1 := hBa.trans (hB1.mono hBa.size)
  obtain ⟨g0, cap0, rfl, _, _, hcs0, _⟩ := row_open h1.prow hT.1
  have hA : TreeAt w1 b 3 g0 cap0 ps := ⟨h1.c3, hcs0⟩
  have hlb := hA.lt_b
  have hlg := hA.lt_g hT.1
  clear hcs0 hra
  go_wp2
  go_loopw [17] (fun ii wr => ∃ i : Nat, i ≤ L.length ∧ ii = .int .i64 i ∧ Below w1.heap.size w1 wr ∧ Hid (pairF (kindI ps) L = pairF (kindI ps) (L.drop i))) (fun ii _ => L.length - (intOf ii).toNat)
  case atStart => exact ⟨0, by omega, rfl, Below.refl _ _, by simp [Hid]⟩
  case round =>
    obtain ⟨i, hi, rfl, hB, hP⟩ := hrel
    by_cases hlt : i < L.length
    · have hlt' : (i : Int) < (L.length : Int) := by omega
      obtain ⟨gv, cap, hgv, hcap, hcapm, hc, _⟩ := vrow_open (row_low hrow) (by omega)
      simp only [Value.slice.injEq, true_and] at hgv
      obtain ⟨rfl, rfl⟩ := hgv
      have hgl : gv < w1.heap.size := VCells.lt hc (by omega)
      obtain ⟨x, hx⟩ : ∃ x, L[i]? = some x := ⟨_, List.getElem?_eq_getElem hlt⟩
      obtain ⟨hc0, hc1, hc2⟩ := VCells.below hc hB hgl i x hx
      obtain ⟨hxv, hxb⟩ := HM.out x (List.mem_of_getElem? hx)
      have HP : Hid _ := pairF_drop (K := kindI ps) hx
      have HC : Hid (VCells w1 gv L) := hc
      have HX : Hid (x.v = u) := hxv
      clear hc hx hxv
      have n1 : (i : Int) + 1 ≤ (vc : Int) := by omega
      have n2 : (i : Int) + 1 ≤ (L.length : Int) := by omega
      have n3 : (0 : Int) ≤ (i : Int) + 1 := by omega
      have hwr : IntKind.i64.wrap ((i : Int) + 1) = (i : Int) + 1 := Go.IntWalk.i64_in _ (by omega)
      by_cases hvc : vc = i + 1
      · have e0 : L.length - (i + 1) = 0 := by omega
        have HP' : Hid (pairF (kindI ps) L = pairF (kindI ps) (L.drop (i + 1))) := by
          show _ = _
          rw [hP.out, HP.out, List.drop_eq_nil_of_le (by omega)]; rfl
        clear HP hP
        have hBn : Below w1.heap.size w1 (wr.alloc (.cells #[I64 x.v, I64 x.s, I64 x.t] 47)) := hB.alloc hB.size _
        go_wp2
        go_rounds 1
        go_roundw
        case rel => exact ⟨i + 1, by omega, by go_num, hBn, HP'⟩
        case measure => simp [intOf]; omega
      · have hwrz := hB.size
        go_wp2
        obtain ⟨wx, hwx⟩ : ∃ wx, wr.alloc (.cells #[I64 x.v, I64 x.s, I64 x.t] 47) = wx := ⟨_, rfl⟩
        have hBx : Below w1.heap.size w1 wx := by rw [← hwx]; exact hB.alloc hwrz _
        have hxz : wx.heap.size = wr.heap.size + 1 := by rw [← hwx]; simp
        have hxo : wx.heap[wr.heap.size]? = some (.cells #[I64 x.v, I64 x.s, I64 x.t] 47 (0, 0)) := by rw [← hwx]; exact heap_alloc_new wr _
        obtain ⟨nx, hnx⟩ : ∃ n, wr.heap.size = n := ⟨_, rfl⟩
        rw [hwx, hnx]
        rw [hnx] at hxz hxo hwrz
        clear hwx hc0 hc1 hc2 hnx
        have d0 : wx.cell? ⟨nx, 0, none⟩ = some (I64 x.v) := by rw [cell_of_heap hxo]; rfl
        have d1 : wx.cell? ⟨nx, 1, none⟩ = some (I64 x.s) := by rw [cell_of_heap hxo]; rfl
        have d2 : wx.cell? ⟨nx, 2, none⟩ = some (I64 x.t) := by rw [cell_of_heap hxo]; rfl
        clear hxo hB
        go_loopw [27] (fun jj wr2 => ∃ j : Nat, j ≤ L.length - (i + 1) ∧ jj = .int .i64 j ∧ Below wx.heap.size wx wr2 ∧ Hid (((L.drop (i + 1)).take j).find? (fun y => decide (kindI ps x y ≠ 0)) = none)) (fun jj _ => L.length - (i + 1) - (intOf jj).toNat)
        case atStart => exact ⟨0, by omega, rfl, Below.refl _ _, by simp [Hid]⟩
        case round =>
          obtain ⟨j, hj, rfl, hB2, hF⟩ := hrel
          have hz2 := hB2.size
          have hz3 := hBx.size
          have hB3 : Below w1.heap.size w1 wr := hBx.trans (hB2.mono hz3)
          by_cases hjl : j < L.length - (i + 1)
          · have hjl' : (j : Int) < ((L.length - (i + 1) : Nat) : Int) := by omega
            obtain ⟨y, hy⟩ : ∃ y, L[i + 1 + j]? = some y := ⟨_, List.getElem?_eq_getElem (by omega)⟩
            obtain ⟨hc0, hc1, hc2⟩ := VCells.below HC.out hB3 hgl (i + 1 + j) y hy
            rw [Nat.add_mul] at hc0 hc1 hc2
            obtain ⟨hyv, hyb⟩ := HM.out y (List.mem_of_getElem? hy)
            have HFN : Hid (((L.drop (i + 1)).take (j + 1)).find? (fun y => decide (kindI ps x y ≠ 0)) = if decide (kindI ps x y ≠ 0) = true then some y else none) := find_none_take hF.out (by rw [List.getElem?_drop]; exact hy)
            have HV : Hid (x.v = y.v) := HX.out.trans hyv.symm
            have HY : Hid (y.v = u) := hyv
            clear hy hyv hF
            have k0 : wr.cell? ⟨nx, 0, none⟩ = some (I64 x.v) := (hB2.cell (p := ⟨nx, 0, none⟩) (by dsimp only; omega)).trans d0
            have k1 : wr.cell? ⟨nx, 1, none⟩ = some (I64 x.s) := (hB2.cell (p := ⟨nx, 1, none⟩) (by dsimp only; omega)).trans d1
            have k2 : wr.cell? ⟨nx, 2, none⟩ = some (I64 x.t) := (hB2.cell (p := ⟨nx, 2, none⟩) (by dsimp only; omega)).trans d2
            have hnxl : nx < wr.heap.size := by omega
            go_wp2_with fail
            obtain ⟨wy, hwy⟩ : ∃ wy, wr.alloc (.cells #[I64 y.v, I64 y.s, I64 y.t] 47) = wy := ⟨_, rfl⟩
            have hBy : Below wr.heap.size wr wy := by rw [← hwy]; exact (Below.refl _ wr).alloc (Nat.le_refl _) _
            have hyz : wy.heap.size = wr.heap.size + 1 := by rw [← hwy]; simp
            have hyo : wy.heap[wr.heap.size]? = some (.cells #[I64 y.v, I64 y.s, I64 y.t] 47 (0, 0)) := by rw [← hwy]; exact heap_alloc_new wr _
            obtain ⟨ny, hny⟩ : ∃ n, wr.heap.size = n := ⟨_, rfl⟩
            rw [hwy, hny]
            rw [hny] at hyz hyo hBy hz2 hnxl
            have hBy2 : Below wx.heap.size wx wy := hB2.trans (hBy.mono hz2)
            have hBy1 : Below w1.heap.size w1 wy := hB3.trans (hBy.mono (by omega))
            have m0 : wy.cell? ⟨nx, 0, none⟩ = some (I64 x.v) := (hBy.cell (p := ⟨nx, 0, none⟩) hnxl).trans k0
            have m1 : wy.cell? ⟨nx, 1, none⟩ = some (I64 x.s) := (hBy.cell (p := ⟨nx, 1, none⟩) hnxl).trans k1
            have m2 : wy.cell? ⟨nx, 2, none⟩ = some (I64 x.t) := (hBy.cell (p := ⟨nx, 2, none⟩) hnxl).trans k2
            have m3 : wy.cell? ⟨ny, 0, none⟩ = some (I64 y.v) := by rw [cell_of_heap hyo]; rfl
            have m4 : wy.cell? ⟨ny, 1, none⟩ = some (I64 y.s) := by rw [cell_of_heap hyo]; rfl
            have m5 : wy.cell? ⟨ny, 2, none⟩ = some (I64 y.t) := by rw [cell_of_heap hyo]; rfl
            have hAy : TreeAt wy.drew b 3 g0 cap0 ps := (hA.below hBy1 hlb hlg).below (Below.refl wy.heap.size wy).drew (by omega) (by omega)
            clear hwy hc0 hc1 hc2 k0 k1 k2 hyo hny hBy
            refine wp_region_held_drew (S := fun w' => (w'.cell? ⟨nx, 0, none⟩ = some (I64 x.v) ∧ w'.cell? ⟨nx, 1, none⟩ = some (I64 x.s) ∧ w'.cell? ⟨nx, 2, none⟩ = some (I64 x.t)) ∧ w'.cell? ⟨ny, 0, none⟩ = some (I64 y.v) ∧ w'.cell? ⟨ny, 1, none⟩ = some (I64 y.s) ∧ w'.cell? ⟨ny, 2, none⟩ = some (I64 y.t)) (by kernel_rfl) ⟨⟨m0, m1, m2⟩, m3, m4, m5⟩ (fun hHeld => ?_)
            refine takeH (i := 0) (v := ?vv1) rfl (by kernel_rfl) (by kernel_rfl) (by kernel_rfl) (fun _ _ _ h => h) (Or.inl ⟨by rfl, ?hy1⟩) (by assumption) ?rest1
            case hy1 => (intro w hSw; (try dsimp only at hSw); go_simp; try with_reducible rfl)
            try simp only [Act.put, List.setIfInBounds_toArray, List.set_cons_zero, List.set_cons_succ]
            refine takeH (i := 1) (v := ?vv2) rfl (by kernel_rfl) (by kernel_rfl) (by kernel_rfl) (fun _ _ _ h => h) (Or.inl ⟨by rfl, ?hy2⟩) (by assumption) ?rest2
            case hy2 => (intro w hSw; (try dsimp only at hSw); go_simp; try with_reducible rfl)
            try simp only [Act.put, List.setIfInBounds_toArray, List.set_cons_zero, List.set_cons_succ]
            refine takeH (i := 2) (v := ?vv3) rfl (by kernel_rfl) (by kernel_rfl) (by kernel_rfl) (fun _ _ _ h => h) (Or.inl ⟨by rfl, ?hy3⟩) (by assumption) ?rest3
            case hy3 => (intro w hSw; (try dsimp only at hSw); go_simp; try with_reducible rfl)
            try simp only [Act.put, List.setIfInBounds_toArray, List.set_cons_zero, List.set_cons_succ]
            refine takeH (i := 3) (v := ?vv4) rfl (by kernel_rfl) (by kernel_rfl) (by kernel_rfl) (fun _ _ _ h => h) (Or.inl ⟨by rfl, ?hy4⟩) (by assumption) ?rest4
            case hy4 => (intro w hSw; (try dsimp only at hSw); go_simp; try with_reducible rfl)
            try simp only [Act.put, List.setIfInBounds_toArray, List.set_cons_zero, List.set_cons_succ]
            refine takeH (i := 4) (v := ?vv5) rfl (by kernel_rfl) (by kernel_rfl) (by kernel_rfl) (fun _ _ _ h => h) (Or.inl ⟨by rfl, ?hy5⟩) (by assumption) ?rest5
            case hy5 => (intro w hSw; (try dsimp only at hSw); go_simp; try with_reducible rfl)
            try simp only [Act.put, List.setIfInBounds_toArray, List.set_cons_zero, List.set_cons_succ]
            refine doneH (i := 5) rfl (by kernel_rfl) (by rfl) (fun K hK => ?_)
            have HK : Hid _ := hK
            clear hK
            go_simp
            refine (kind_any b 3 g0 cap0 ps hT x y HV.out hxb hyb _ hAy).mono ?_
            rintro e W3 ⟨rfl, hB4⟩
            have hB4 : Below wy.heap.size wy W3 := (Below.refl wy.heap.size wy).drew.trans hB4
            have p0 : W3.cell? ⟨nx, 0, none⟩ = some (I64 x.v) := (hB4.cell (p := ⟨nx, 0, none⟩) (by dsimp only; omega)).trans m0
            have p1 : W3.cell? ⟨nx, 1, none⟩ = some (I64 x.s) := (hB4.cell (p := ⟨nx, 1, none⟩) (by dsimp only; omega)).trans m1
            have p2 : W3.cell? ⟨nx, 2, none⟩ = some (I64 x.t) := (hB4.cell (p := ⟨nx, 2, none⟩) (by dsimp only; omega)).trans m2
            have p3 : W3.cell? ⟨ny, 0, none⟩ = some (I64 y.v) := (hB4.cell (p := ⟨ny, 0, none⟩) (by dsimp only; omega)).trans m3
            have p4 : W3.cell? ⟨ny, 1, none⟩ = some (I64 y.s) := (hB4.cell (p := ⟨ny, 1, none⟩) (by dsimp only; omega)).trans m4
            have p5 : W3.cell? ⟨ny, 2, none⟩ = some (I64 y.t) := (hB4.cell (p := ⟨ny, 2, none⟩) (by dsimp only; omega)).trans m5
            have hBx3 : Below wx.heap.size wx W3 := hBy2.trans (hB4.mono (by omega))
            clear hHeld hAy m0 m1 m2 m3 m4 m5 hBy2
            refine HK.out _ _ ⟨⟨p0, p1, p2⟩, p3, p4, p5⟩ (fun hHeld => ?_)
            clear HK K
            try simp only [Act.put, List.setIfInBounds_toArray, List.set_cons_zero, List.set_cons_succ]
            refine takeH (i := 6) (v := ?vv6) rfl (by kernel_rfl) (by kernel_rfl) (by kernel_rfl) (fun _ _ _ h => h) (Or.inl ⟨by rfl, ?hy6⟩) (by assumption) ?rest6
            case hy6 => (intro w hSw; (try dsimp only at hSw); go_simp; try with_reducible rfl)
            try simp only [Act.put, List.setIfInBounds_toArray, List.set_cons_zero, List.set_cons_succ]
            clear hHeld
            refine wpAnyH_done (by kernel_rfl) ?_ _
            obtain ⟨kd, hkd⟩ : ∃ kd, kindI ps x y = kd := ⟨_, rfl⟩
            rw [hkd]
            have HFN' : Hid (((L.drop (i + 1)).take (j + 1)).find? (fun y => decide (kindI ps x y ≠ 0)) = if decide (kd ≠ 0) = true then some y else none) := by show _ = _; rw [HFN.out, hkd]
            have HKD : Hid (kindI ps x y = kd) := hkd
            clear hkd HFN
            by_cases hkz : kd = 0
            · have q : (kd != 0) = false := by simpa using hkz
              have HF2 : Hid (((L.drop (i + 1)).take (j + 1)).find? (fun y => decide (kindI ps x y ≠ 0)) = none) := by show _ = _; rw [HFN'.out, hkz]; rfl
              clear HFN' hkz
              go_wp2
              go_roundw
              case rel => exact ⟨j + 1, by omega, by go_num, hBx3, HF2⟩
              case measure => simp [intOf]; omega
            · have q : (kd != 0) = true := by simpa using hkz
              have HR : Hid (guiltV ps vs u = some ⟨u, kd, x, y⟩) := by
                show _ = _
                have e1 : (L.drop (i + 1)).find? (fun y => decide (kindI ps x y ≠ 0)) = some y := find_some_take (j := j + 1) (by rw [HFN'.out]; simp [hkz])
                rw [HG.out, hP.out, HP.out, e1]
                simp [HKD.out]
              clear HFN' hkz
              have hB5 : Below w1.heap.size w1 W3 := hBx.trans (hBx3.mono hz3)
              have hrw : W3.heap[w.heap.size]? = some (.cells #[I64 0, I64 0, I64 0, I64 0, I64 0, I64 0, I64 0, I64 0] 98 (0, 0)) := (hB5.block _ (by omega)).trans hr1
              have z0 : W3.cell? ⟨w.heap.size, 0, none⟩ = some (I64 0) := by rw [cell_of_heap hrw]; rfl
              have z1 : W3.cell? ⟨w.heap.size, 1, none⟩ = some (I64 0) := by rw [cell_of_heap hrw]; rfl
              have z2 : W3.cell? ⟨w.heap.size, 2, none⟩ = some (I64 0) := by rw [cell_of_heap hrw]; rfl
              have z3 : W3.cell? ⟨w.heap.size, 3, none⟩ = some (I64 0) := by rw [cell_of_heap hrw]; rfl
              have z4 : W3.cell? ⟨w.heap.size, 4, none⟩ = some (I64 0) := by rw [cell_of_heap hrw]; rfl
              have z5 : W3.cell? ⟨w.heap.size, 5, none⟩ = some (I64 0) := by rw [cell_of_heap hrw]; rfl
              have z6 : W3.cell? ⟨w.heap.size, 6, none⟩ = some (I64 0) := by rw [cell_of_heap hrw]; rfl
              have z7 : W3.cell? ⟨w.heap.size, 7, none⟩ = some (I64 0) := by rw [cell_of_heap hrw]; rfl
              have fz : ∀ o, W3.frozen? ⟨w.heap.size, o, none⟩ = false := fun o => frozen_of_heap hrw o
              have HRW : Hid _ := hrw
              clear hrw hr1
              go_wp2
              have h8 := put8_heap HRW.out (I64 u) (I64 kd) (I64 x.v) (I64 x.s) (I64 x.t) (I64 y.v) (I64 y.s) (I64 y.t)
              obtain ⟨y0, y1, y2, y3, y4, y5, y6, y7⟩ := eight_cells h8
              unfold put8 at y0 y1 y2 y3 y4 y5 y6 y7
              refine ⟨rfl, .tuple #[guV (guiltV ps vs u), .bool (guiltV ps vs u).isSome], ?_, rfl, put8_below (hBw.trans (hB5.mono hBw.size)) (Nat.le_refl _) _ _ _ _ _ _ _ _⟩
              rw [HR.out]
              simp only [results, Tryz.f104]
              simp [go_sem, y0, y1, y2, y3, y4, y5, y6, y7]
          · have hj' : j = L.length - (i + 1) := by omega
            subst hj'
            have HP' : Hid (pairF (kindI ps) L = pairF (kindI ps) (L.drop (i + 1))) := by
              have hF' := hF.out
              rw [List.take_of_length_le (by simp)] at hF'
              show _ = _
              rw [hP.out, HP.out, hF']
            clear HP hP hF
            go_wp2
            go_roundw
            case rel => exact ⟨i + 1, by omega, by go_num, hB3, HP'⟩
            case measure => simp [intOf]; omega
    · have hrw : wr.heap[w.heap.size]? = some (.cells #[I64 0, I64 0, I64 0, I64 0, I64 0, I64 0, I64 0, I64 0] 98 (0, 0)) := (hB.block _ (by omega)).trans hr1
      have z0 : wr.cell? ⟨w.heap.size, 0, none⟩ = some (I64 0) := by rw [cell_of_heap hrw]; rfl
      have z1 : wr.cell? ⟨w.heap.size, 1, none⟩ = some (I64 0) := by rw [cell_of_heap hrw]; rfl
      have z2 : wr.cell? ⟨w.heap.size, 2, none⟩ = some (I64 0) := by rw [cell_of_heap hrw]; rfl
      have z3 : wr.cell? ⟨w.heap.size, 3, none⟩ = some (I64 0) := by rw [cell_of_heap hrw]; rfl
      have z4 : wr.cell? ⟨w.heap.size, 4, none⟩ = some (I64 0) := by rw [cell_of_heap hrw]; rfl
      have z5 : wr.cell? ⟨w.heap.size, 5, none⟩ = some (I64 0) := by rw [cell_of_heap hrw]; rfl
      have z6 : wr.cell? ⟨w.heap.size, 6, none⟩ = some (I64 0) := by rw [cell_of_heap hrw]; rfl
      have z7 : wr.cell? ⟨w.heap.size, 7, none⟩ = some (I64 0) := by rw [cell_of_heap hrw]; rfl
      have fz : ∀ o, wr.frozen? ⟨w.heap.size, o, none⟩ = false := fun o => frozen_of_heap hrw o
      have HRW : Hid _ := hrw
      clear hrw hr1
      go_wp2
      have HN : Hid (guiltV ps vs u = none) := by
        show _ = _
        rw [HG.out, hP.out, List.drop_eq_nil_of_le (by omega)]; rfl
      have h8 := put8_heap HRW.out (I64 0) (I64 0) (I64 0) (I64 0) (I64 0) (I64 0) (I64 0) (I64 0)
      obtain ⟨y0, y1, y2, y3, y4, y5, y6, y7⟩ := eight_cells h8
      unfold put8 at y0 y1 y2 y3 y4 y5 y6 y7
      refine ⟨rfl, .tuple #[guV (guiltV ps vs u), .bool (guiltV ps vs u).isSome], ?_, rfl, put8_below (hBw.trans (hB.mono hBw.size)) (Nat.le_refl _) _ _ _ _ _ _ _ _⟩
      rw [HN.out]
      simp only [results, Tryz.f104]
      simp [go_sem, y0, y1, y2, y3, y4, y5, y6, y7]

def guCells (g : Gu) : List Value := [I64 g.v, I64 g.k, I64 g.a.v, I64 g.a.s, I64 g.a.t, I64 g.b.v, I64 g.b.s, I64 g.b.t]
def guRow (gs : List Gu) : List Value := gs.flatMap guCells
theorem guRow_append (a b : List Gu) : guRow (a ++ b) = guRow a ++ guRow b := by simp [guRow]
theorem info_guilt : (Tryz.prog.info? 98).map (fun i => (i.zero, i.size, i.bytes)) = some (some (.agg #[I64 0, I64 0, I64 0, I64 0, I64 0, I64 0, I64 0, I64 0]), 8, 64) := by kernel_rfl
theorem guiltL_length (n : Nat) (ps : List Int) (vs : List Vt) : (guiltL n ps vs).length ≤ n := by
  unfold guiltL
  exact Nat.le_trans (List.length_filterMap_le _ _) (by simp)

set_option maxRecDepth 100000 in
set_option maxHeartbeats 4000000 in
theorem guilties_at (b : Nat) (S : Nat → Prop) (m : Int) (ws ps : List Int) (vs : List Vt) (wv pv vv : Value) (w : World) (h : CourtAt w b S m ws ps vs wv pv vv) (hT : Tree ps) (hW : OkWs ws) (hl : vs.length ≤ 300) (hO : OkV ws.length ps vs) :
    Calls Tryz.prog 81 #[.pointer (some ⟨b, 0, none⟩)] w fun e w' => (∃ v, e = .returned v ∧ w'.ownsRow w.heap.size 98 8 v (guiltL ws.length ps vs).length (guRow (guiltL ws.length ps vs))) ∧ Below w.heap.size w w' := by
  obtain ⟨gw, capw, rfl, _, _, hcw, _⟩ := row_open h.wrow hW.pos
  have hbl := h.lt b h.inb
  have h2 := h.c2
  have hw12 := hW.le
  clear hcw
  obtain ⟨i0, hi, hz0, hz1, hz2⟩ := info_parts info_guilt
  go_enter Tryz.func81, Tryz.ntmps81
  go_wp2
  go_loopw [3, 12] (fun v i wr => ∃ k : Nat, k ≤ ws.length ∧ i = .int .i64 k ∧ Below w.heap.size w wr ∧ wr.ownsRow w.heap.size 98 8 v (guiltL k ps vs).length (guRow (guiltL k ps vs))) (fun _ i _ => ws.length - (intOf i).toNat)
  case atStart => exact ⟨0, by omega, rfl, Below.refl _ _, World.ownsRow_nil _ _ _ _⟩
  case round =>
    obtain ⟨k, hk, rfl, hB, hown⟩ := hrel
    have hz := hB.size
    by_cases hlt : k < ws.length
    · have hlt' : (k : Int) < (ws.length : Int) := by omega
      have hC := h.kept (Chg.of_below (fun _ => False) hB) (fun _ _ hf => hf)
      have HS : Hid _ := guiltL_succ k ps vs
      have hgl := guiltL_length k ps vs
      obtain ⟨G, hG⟩ : ∃ G, guiltL k ps vs = G := ⟨_, rfl⟩
      rw [hG] at hown hgl
      have HG : Hid (guiltL k ps vs = G) := hG
      clear hG
      go_wp2_with fail
      refine (guiltOf_at b S m ws ps vs _ _ _ k wr hC hT hl hO).mono ?_
      rintro e w3 ⟨rfl, hB3⟩
      have hown3 := row_below hown hB3 (Nat.le_refl _)
      have hB4 : Below w.heap.size w w3 := hB.trans (hB3.mono hz)
      have hz4 := hB4.size
      cases hgv : guiltV ps vs k with
      | none =>
        have HS' : Hid (guiltL (k + 1) ps vs = G) := by show _ = _; rw [HS.out, HG.out, hgv]; simp
        clear HS hgv
        go_wp2
        go_roundw
        case rel => exact ⟨k + 1, by omega, by go_num, hB4.alloc hz4 _, by rw [HS'.out]; exact hown3.alloc _⟩
        case measure => simp [intOf]; omega
      | some gu =>
        have HS' : Hid (guiltL (k + 1) ps vs = G ++ [gu]) := by show _ = _; rw [HS.out, HG.out, hgv]; rfl
        clear HS hgv
        have h63 : Hid (G.length + 1 ≤ maxLen) := by show _ ≤ _; unfold maxLen; omega
        go_wp2_with (at_builtin; refine wpList_append_own _ (by rfl) _ _ _ (by rfl) w.heap.size 98 i0 (.agg #[I64 0, I64 0, I64 0, I64 0, I64 0, I64 0, I64 0, I64 0]) 8 64 Tryz.underlying86 hi hz0 hz1 hz2 rfl (by omega) _ G.length (guRow G) (by rfl) ((hown3.alloc _).alloc _) ⟨w3.heap.size + 1, 0, none⟩ 1 1 (guCells gu) (by rfl) (by rfl) (cells_two _ _ #[I64 gu.v, I64 gu.k, I64 gu.a.v, I64 gu.a.s, I64 gu.a.t, I64 gu.b.v, I64 gu.b.s, I64 gu.b.t] _) (by simp [guCells, Value.oneCell']) h63.out (by omega) (by simp; omega) ?_; intro v1 w1 hown1 hgrow1 hnil1)
        go_roundw
        case rel => exact ⟨k + 1, by omega, by go_num, ((hB4.alloc hz4 _).alloc (by simp; omega) _).grown hgrow1 (by simp; omega) (fun j e => (hown3.lt j e).1), by rw [HS'.out, guRow_append, List.length_append]; simpa [guRow] using hown1⟩
        case measure => simp [intOf]; omega
    · have hk' : k = ws.length := by omega
      subst hk'
      go_wp2
      go_ret
      exact ⟨⟨_, rfl, hown⟩, hB⟩

set_option maxHeartbeats 1000000 in
theorem guilty_at (b : Nat) (S : Nat → Prop) (ws ps : List Int) (vs : List Vt) (wv pv vv : Value) (w : World) (h : CourtAt w b S 0 ws ps vs wv pv vv) (hT : Tree ps) (hW : OkWs ws) (hl : vs.length ≤ 300) (hO : OkV ws.length ps vs) :
    Calls Tryz.prog 57 #[.pointer (some ⟨b, 0, none⟩)] w fun e w' => (∃ v, e = .returned v ∧ w'.ownsRow w.heap.size 98 8 v (guiltL ws.length ps vs).length (guRow (guiltL ws.length ps vs))) ∧ CourtAt w' b S 0 ws ps vs wv pv vv ∧ Chg S w w' := by
  obtain ⟨gw, capw, rfl, _, _, _, _⟩ := row_open h.wrow hW.pos
  obtain ⟨h1, c1⟩ := h.setM 1
  have hd : decide (0 < ws.length) = true := by simpa using hW.pos
  go_enter_defers Tryz.func57, Tryz.ntmps57
  go_wp2_with fail
  refine (lock_at b 0 _ h.c0 (h.fz 0)).mono ?_
  rintro e w1 ⟨rfl, hw1⟩
  rw [← hw1] at h1 c1
  clear hw1
  go_wp2_with fail
  refine (made_at b 0 _ _ _ _ h1.c2).mono ?_
  rintro e w2 ⟨rfl, rfl⟩
  rw [hd]
  go_wp2_with fail
  refine (guilties_at b S 1 ws ps vs _ pv vv _ h1 hT hW hl hO).mono ?_
  rintro e w4 ⟨⟨v, rfl, hrow⟩, hB5⟩
  have h4 := h1.kept (Chg.of_below (fun _ => False) hB5) (fun _ _ hf => hf)
  go_wp2_with fail
  refine leaves_cons (f := 20) (args := #[.pointer (some ⟨b, 0, none⟩)]) (by simp) (by simp [go_sem]) ?_
  refine (unlock_at b 0 .returning _ h4.c0 (h4.fz 0)).mono ?_
  rintro e u' w'' ⟨rfl, rfl, rfl⟩
  obtain ⟨h5, c5⟩ := h4.setM 0
  exact ⟨_, results_tmp rfl _ _ _, ⟨_, rfl, row_lower (row_set hrow b 0 _ (h1.lt b h1.inb)) c1.size⟩, h5, (c1.trans (Chg.of_below S hB5)).trans c5⟩
end Go.Proofs.YtmphfgcfkfpppaaGreat
