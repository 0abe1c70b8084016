/- linkedFrom, justBlocks, numbersOf and Just: that each returns, and leaves the Court as it was. -/
import Derived.Test.YtalkalnncegicaaJustF
import Derived.Test.YtalkalnncegicaaTreeS
namespace Go.Proofs.Ytalkalnncegicaa
open Go.RowKit Go.Shelf
attribute [local go_sem] Oper.semAt_some

/-- A row of marks. -/
def Marks (w : World) (g n : Nat) : Prop := ∀ j, j < n → ∃ r : Bool, w.cell? ⟨g, j, none⟩ = some (.bool r)

set_option maxRecDepth 100000 in
set_option maxHeartbeats 4000000 in
theorem linkedFrom_any (b : Nat) (S : Nat → Prop) (m : Int) (ws ps : List Int) (vs : List Vt) (wv pv vv : Value) (gj cj : Nat) (t : Int) (w : World) (h : CourtAt w b S m ws ps vs wv pv vv) (hT : Tree ps) (hw : 0 < ws.length) (hw2 : ws.length ≤ 12) (hl : vs.length ≤ 300) (hov : ∀ y ∈ vs, 0 ≤ y.v ∧ y.v < ws.length)
    (hM : Marks w gj ps.length) (ht0 : 0 ≤ t) (ht1 : t.toNat < ps.length) :
    Calls Try.prog 70 #[.pointer (some ⟨b, 0, none⟩), .slice (some ⟨gj, 0, none⟩) ps.length cj, .int .i64 t] w fun e w' => (∃ r : Bool, e = .returned (.bool r)) ∧ Below w.heap.size w w' := by
  have hfn : Fence.wide.fn 82 := trivial
  have hfn2 : Fence.wide.fn 83 := trivial
  have hmix : Try.prog.follows .mixedOrders = true := by kernel_rfl
  obtain ⟨g0, cap0, rfl, _, _, hcs0, _⟩ := row_open h.prow hT.1
  have hA : TreeAt w b 3 g0 cap0 ps := ⟨h.c3, hcs0⟩
  have hlb := hA.lt_b
  have hlg := hA.lt_g hT.1
  refine (callsIn_wide (n := 5)).1 ?_
  refine callsIn_of_wp_marks Try.func70 rfl trivial ?_ rfl
  simp only [Try.ntmps70, List.size_toArray, List.length_cons, List.length_nil, Nat.reduceAdd, Nat.reduceSub, Array.replicate_succ, Array.replicate_zero, List.push_toArray, List.append_toArray, List.nil_append, List.cons_append]
  gi_wp2_with fail
  refine wpIn_mono (Q := NoPanic (fun e a' w' => e = .normal ∧ a' = { tmps := #[.pointer (some ⟨b, 0, none⟩), .slice (some ⟨gj, 0, none⟩) ps.length cj, .int .i64 t, .pointer (some ⟨w.heap.size, 0, none⟩), .pointer (some ⟨w.heap.size + 1, 0, none⟩), .pointer (some ⟨w.heap.size + 1 + 1, 0, none⟩), .pointer (some ⟨w.heap.size + 1 + 1 + 1, 0, none⟩), undef, .pointer (some ⟨b, 0, none⟩), .pointer (some ⟨b, 0, none⟩), .pointer (some ⟨b, 3, none⟩), .int .i64 t, .func (.func 96) #[] #[.pointer (some ⟨w.heap.size + 1 + 1 + 1 + 1 + 1, 0, none⟩), .pointer (some ⟨w.heap.size + 1 + 1 + 1 + 1, 0, none⟩)], undef, undef, undef, undef, undef, undef, undef, undef, undef, undef, undef], defers := [] } ∧ w' = ((((((w.alloc (.cells #[.pointer (some ⟨b, 0, none⟩)] 26)).alloc (.cells #[.slice (some ⟨gj, 0, none⟩) ps.length cj] 69)).alloc (.cells #[.int .i64 t] 3)).alloc (.cells #[.bool false] 4)).alloc (.cells #[.pointer (some ⟨b, 3, none⟩)] 116)).alloc (.cells #[.int .i64 t] 3)).drew)) ?_ ?_
  · gi_region_with_o ((gi_at_call 82; refine (callsIn_wide.2 (ahead_makes b 3 t _)).mono ?_; rintro e w' ⟨rfl, rfl⟩))
    all_goals (refine NoPanic.normal ?_; exact ⟨rfl, rfl, rfl⟩)
  rintro e a' w' hq
  obtain ⟨rfl, rfl, hw'⟩ := NoPanic.imp _ _ _ hq
  clear hq
  have hs0 : w'.heap.size = w.heap.size + 1 + 1 + 1 + 1 + 1 + 1 := by rw [hw']; simp
  have c0 : w'.cell? ⟨w.heap.size, 0, none⟩ = some (.pointer (some ⟨b, 0, none⟩)) := by rw [hw']; simp [go_sem]
  have c1 : w'.cell? ⟨w.heap.size + 1, 0, none⟩ = some (.slice (some ⟨gj, 0, none⟩) ps.length cj) := by rw [hw']; simp [go_sem]
  have c2 : w'.cell? ⟨w.heap.size + 1 + 1, 0, none⟩ = some (.int .i64 t) := by rw [hw']; simp [go_sem]
  have c3 : w'.cell? ⟨w.heap.size + 1 + 1 + 1, 0, none⟩ = some (.bool false) ∧ w'.frozen? ⟨w.heap.size + 1 + 1 + 1, 0, none⟩ = false := by rw [hw']; simp [go_sem]
  have c4 : w'.cell? ⟨w.heap.size + 1 + 1 + 1 + 1, 0, none⟩ = some (.pointer (some ⟨b, 3, none⟩)) := by rw [hw']; simp [go_sem]
  have c5 : w'.cell? ⟨w.heap.size + 1 + 1 + 1 + 1 + 1, 0, none⟩ = some (.int .i64 t) := by rw [hw']; simp [go_sem]
  have hB0 : Below w.heap.size w w' := by rw [hw']; exact ((((((Below.refl _ w).alloc (Nat.le_refl _) _).alloc (by simp) _).alloc (by simp; omega) _).alloc (by simp; omega) _).alloc (by simp; omega) _).alloc (by simp; omega) _ |>.drew
  clear hw'
  gi_wp2_with fail
  refine wpIn_rangeFunc_ownF rfl (by omega) (gf := 96) (lb := #[.pointer (some ⟨w.heap.size + 1 + 1 + 1 + 1 + 1, 0, none⟩), .pointer (some ⟨w.heap.size + 1 + 1 + 1 + 1, 0, none⟩)]) rfl trivial (enters_of Try.func96 (by kernel_rfl) rfl)
    (ahead_stopsS 4 (w.heap.size + 1 + 1 + 1 + 1 + 1) (w.heap.size + 1 + 1 + 1 + 1) w'.heap.size b 3 g0 cap0 ps hT t ht0 ht1 w' (by omega) (by omega) (by omega) (by omega) (Nat.le_refl _) c5 c4 (hA.below hB0 hlb hlg)) belowK_t (belowK_b (Nat.le_refl _)) (Below.refl _ _) (fun _ => rfl)
    (fun pre W => (W.cell? ⟨w.heap.size, 0, none⟩ = some (.pointer (some ⟨b, 0, none⟩)) ∧ W.cell? ⟨w.heap.size + 1, 0, none⟩ = some (.slice (some ⟨gj, 0, none⟩) ps.length cj) ∧ W.cell? ⟨w.heap.size + 1 + 1, 0, none⟩ = some (.int .i64 t) ∧ W.cell? ⟨w.heap.size + 1 + 1 + 1, 0, none⟩ = some (.bool false) ∧ W.frozen? ⟨w.heap.size + 1 + 1 + 1, 0, none⟩ = false ∧ w'.heap.size ≤ W.heap.size) ∧ Below w.heap.size w W)
    (fun c pre W => (c = .ret ∧ W.cell? ⟨w.heap.size + 1 + 1 + 1, 0, none⟩ = some (.bool true)) ∧ Below w.heap.size w W)
    (OwnFrom.and (Own.from (fun s A B row hs hg hr => ⟨cell_kept hs.1 hg hr, cell_kept hs.2.1 hg hr, cell_kept hs.2.2.1 hg hr, cell_kept hs.2.2.2.1 hg hr, (frozen_kept hs.2.2.2.1 hg hr).trans hs.2.2.2.2.1, Nat.le_trans hs.2.2.2.2.2 hg.size⟩) _) (ownFrom_below (Nat.le_refl _) (by omega)))
    (fun c => OwnFrom.and (Own.from (fun s A B row hs hg hr => ⟨hs.1, cell_kept hs.2 hg hr⟩) _) (ownFrom_below (Nat.le_refl _) (by omega)))
    ⟨⟨c0, c1, c2, c3.1, c3.2, Nat.le_refl _⟩, hB0⟩
    (fun x => { tmps := #[.pointer (some ⟨b, 0, none⟩), .slice (some ⟨gj, 0, none⟩) ps.length cj, .int .i64 t, .pointer (some ⟨w.heap.size, 0, none⟩), .pointer (some ⟨w.heap.size + 1, 0, none⟩), .pointer (some ⟨w.heap.size + 1 + 1, 0, none⟩), .pointer (some ⟨w.heap.size + 1 + 1 + 1, 0, none⟩), .int .i64 x.1, .pointer (some ⟨b, 0, none⟩), .pointer (some ⟨b, 0, none⟩), .pointer (some ⟨b, 3, none⟩), .int .i64 t, .func (.func 96) #[] #[.pointer (some ⟨w.heap.size + 1 + 1 + 1 + 1 + 1, 0, none⟩), .pointer (some ⟨w.heap.size + 1 + 1 + 1 + 1, 0, none⟩)], .int .i64 x.1, undef, undef, undef, undef, undef, undef, undef, undef, undef, undef], defers := [] }) ?assign ?body ?done ?stop
  case assign =>
    intro l x W K hK
    gi_wp2
    exact hK
  case body =>
    rintro l pre ⟨x, hx0, hx1⟩ W ⟨⟨d0, d1, d2, d3, d4, d5⟩, hB⟩ _
    have hC := h.kept (Chg.of_below (fun _ => False) hB) (fun _ _ hf => hf)
    obtain ⟨r, hr⟩ := hM x.toNat hx1
    have hgjl : gj < w.heap.size := World.block_lt_of_cell? w _ hr
    have hr' : W.cell? ⟨gj, x.toNat, none⟩ = some (.bool r) := (hB.cell (p := ⟨gj, x.toNat, none⟩) hgjl).trans hr
    have hxl : x < (ps.length : Int) := by omega
    have hnn : 1 ≤ 5 - 1 - 1 := by omega
    dsimp only
    cases r
    · gi_wp2
      exact ⟨KeepsOthers.refl _, Below.refl _ _, ⟨d0, d1, d2, d3, d4, d5⟩, hB⟩
    · gi_wp2_with fail
      refine (CallsIn.inRound l (callsIn_wide.2 (enough_any b S m ws ps vs _ _ _ x t W hC hw hw2 hl hov))).mono ?_
      rintro e W2 ⟨⟨r2, rfl⟩, hB2⟩
      have hko : KeepsOthers W W2 := ⟨hB2.size, fun k o hk _ => (hB2.block k (Array.getElem?_eq_some_iff.1 hk).1).trans hk⟩
      have hlt : w.heap.size + 1 + 1 + 1 < W.heap.size := by omega
      have e0 : W2.cell? ⟨w.heap.size, 0, none⟩ = some (.pointer (some ⟨b, 0, none⟩)) := (hB2.cell (p := ⟨w.heap.size, 0, none⟩) (by dsimp only; omega)).trans d0
      have e1 : W2.cell? ⟨w.heap.size + 1, 0, none⟩ = some (.slice (some ⟨gj, 0, none⟩) ps.length cj) := (hB2.cell (p := ⟨w.heap.size + 1, 0, none⟩) (by dsimp only; omega)).trans d1
      have e2 : W2.cell? ⟨w.heap.size + 1 + 1, 0, none⟩ = some (.int .i64 t) := (hB2.cell (p := ⟨w.heap.size + 1 + 1, 0, none⟩) (by dsimp only; omega)).trans d2
      have e3 : W2.cell? ⟨w.heap.size + 1 + 1 + 1, 0, none⟩ = some (.bool false) := (hB2.cell (p := ⟨w.heap.size + 1 + 1 + 1, 0, none⟩) hlt).trans d3
      have e4 : W2.frozen? ⟨w.heap.size + 1 + 1 + 1, 0, none⟩ = false := (hB2.frozen (p := ⟨w.heap.size + 1 + 1 + 1, 0, none⟩) hlt).trans d4
      have hz2 := hB2.size
      have hBw : Below w.heap.size w W2 := hB.trans (hB2.mono hB.size)
      cases r2
      · gi_wp2
        exact ⟨hko, hB2.mono d5, ⟨e0, e1, e2, e3, e4, by omega⟩, hBw⟩
      · gi_wp2
        exact ⟨hko.trans (KeepsOthers.setCell _ _ _), ⟨rfl, World.cell?_setCell_same' _ _ _ (by rw [e3]; rfl)⟩, hBw.setCell (p := ⟨w.heap.size + 1 + 1 + 1, 0, none⟩) (by dsimp only; omega) _⟩
  case done =>
    rintro D ys W hD _ ⟨⟨_, _, _, hcr, hfr, _⟩, hB⟩ hK
    gi_wp2
    have hK' := (KeepsOthers.setCell W ⟨w.heap.size + 1 + 1 + 1, 0, none⟩ (.bool false)).same D _ hK rfl
    refine ⟨by simp, .inl ⟨_, _, rfl, run_takeDeferred hK', ?_⟩⟩
    have hc5 := cell_kept (World.cell?_setCell_same' W ⟨w.heap.size + 1 + 1 + 1, 0, none⟩ (.bool false) (by rw [hcr]; rfl)) (grownBy_putObj' _ D (.deferred none)) (fun r e => by cases e; exact ⟨_, hK', rfl⟩)
    refine ⟨.bool false, ?_, ⟨_, rfl⟩, (hB.setCell (p := ⟨w.heap.size + 1 + 1 + 1, 0, none⟩) (by simp; omega) _).trans (belowK_b (w := w) (Nat.le_refl _) _ D _ _ (by omega) hK' rfl rfl)⟩
    simp [results, Try.f70, go_sem, hc5]
  case stop =>
    rintro D c pre W hD hpre ⟨⟨rfl, hcr⟩, hB⟩ hK
    gi_wp2
    refine ⟨by simp, .inl ⟨_, _, rfl, run_takeDeferred hK, ?_⟩⟩
    have hc5 := cell_kept hcr (grownBy_putObj' _ D (.deferred none)) (fun r e => by cases e; exact ⟨_, hK, rfl⟩)
    refine ⟨.bool true, ?_, ⟨_, rfl⟩, hB.trans (belowK_b (w := w) (Nat.le_refl _) W D _ _ (by omega) hK rfl rfl)⟩
    simp [results, Try.f70, go_sem, hc5]

theorem info_bool : (Try.prog.info? 4).map (fun i => (i.zero, i.size, i.bytes)) = some (some (.bool false), 1, 1) := by kernel_rfl

set_option maxRecDepth 100000 in
set_option maxHeartbeats 2000000 in
theorem justBlocks_any (b : Nat) (S : Nat → Prop) (m : Int) (ws ps : List Int) (vs : List Vt) (wv pv vv : Value) (w : World) (h : CourtAt w b S m ws ps vs wv pv vv) (hT : Tree ps) (hw : 0 < ws.length) (hw2 : ws.length ≤ 12) (hl : vs.length ≤ 300) (hov : ∀ y ∈ vs, 0 ≤ y.v ∧ y.v < ws.length) :
    Calls Try.prog 42 #[.pointer (some ⟨b, 0, none⟩)] w fun e w' => (∃ g, e = .returned (.slice (some ⟨g, 0, none⟩) ps.length ps.length) ∧ Marks w' g ps.length) ∧ Below w.heap.size w w' := by
  obtain ⟨g0, cap0, rfl, _, _, hcs0, _⟩ := row_open h.prow hT.1
  have h3 := h.c3
  have hlen : ps.length ≤ 40 := hT.2.1
  obtain ⟨i0, hi, hz0, hz1, hz2⟩ := info_parts info_bool
  clear hcs0
  go_enter Try.func42, Try.ntmps42
  have h63 : Hid (ps.length ≤ maxLen) := by show _ ≤ _; unfold maxLen; omega
  have hby : Hid (i0.bytes * ps.length ≤ 281474976710656) := by show _ ≤ _; rw [hz2]; omega
  clear hz2
  go_wp2_with fail
  refine (count_at b 3 (some ⟨g0, 0, none⟩) ps.length cap0 _ h3).mono ?_
  rintro e w' ⟨rfl, rfl⟩
  go_wp2_with (at_make; refine wpList_make_full _ (by rfl) _ _ _ (by rfl) 0 4 i0 (.bool false) 1 Try.underlying69 hi hz0 hz1 .i64 .i64 _ _ ps.length (by rfl) (by rfl) rfl rfl hby.out h63.out (Nat.zero_le _) ?_; intro w2 hown2 hgrow2)
  have hB2 : Below w'.heap.size w' w2 := (Below.refl _ w').grown hgrow2 (Nat.le_refl _) (fun k e => by cases e)
  have hstart : ∃ cur : Array Value, w2.heap[w'.heap.size]? = some (.cells cur 4 (0, 0)) ∧ cur.size = ps.length ∧ ∀ j, j < ps.length → ∃ r : Bool, cur[j]? = some (.bool r) := by
    rcases hown2.2 with ⟨h', _⟩ | ⟨g, cap, cur, h', _, hg, _, _, hs, ht⟩
    · simp at h'
    · simp only [Value.slice.injEq, Option.some.injEq, Addr.mk.injEq, and_true, true_and] at h'
      obtain ⟨rfl, rfl⟩ := h'
      refine ⟨cur, hg, by omega, fun j hj => ⟨false, ?_⟩⟩
      have e1 : cur.toList = List.replicate ps.length (.bool false) := by
        rw [List.take_of_length_le (by simp; omega)] at ht
        rw [ht]
        have := toList_madeCells_one (.bool false) (ps.length * 1)
        simpa [Value.cells] using this
      have e2 : cur.toList[j]? = some (.bool false) := by rw [e1]; simp [hj]
      simpa using e2
  clear hown2 hgrow2
  go_loopw [12] (fun i wr => ∃ k : Nat, k ≤ ps.length ∧ i = .int .i64 k ∧ Below w'.heap.size w' wr ∧ Hid (∃ cur : Array Value, wr.heap[w'.heap.size]? = some (.cells cur 4 (0, 0)) ∧ cur.size = ps.length ∧ ∀ j, j < ps.length → ∃ r : Bool, cur[j]? = some (.bool r)))
    (fun i _ => ps.length - (intOf i).toNat)
  case atStart => exact ⟨0, by omega, rfl, hB2, hstart⟩
  case round =>
    obtain ⟨k, hk, rfl, hB, hcur⟩ := hrel
    clear hstart hB2
    by_cases hlt : k < ps.length
    · have hlt' : (k : Int) < (ps.length : Int) := by omega
      have hstore : ∀ (W : World) (r : Bool), Below wr.heap.size wr W → (∃ v, W.cell? ⟨w'.heap.size, k, none⟩ = some v) ∧ W.frozen? ⟨w'.heap.size, k, none⟩ = false ∧ Below w'.heap.size w' (W.setCell ⟨w'.heap.size, k, none⟩ (.bool r)) ∧ Hid (∃ cur : Array Value, (W.setCell ⟨w'.heap.size, k, none⟩ (.bool r)).heap[w'.heap.size]? = some (.cells cur 4 (0, 0)) ∧ cur.size = ps.length ∧ ∀ j, j < ps.length → ∃ r : Bool, cur[j]? = some (.bool r)) := fun W r hW => by
        obtain ⟨cur, hc, hsz, hm⟩ := hcur.out
        have hlt2 : w'.heap.size < wr.heap.size := (Array.getElem?_eq_some_iff.1 hc).1
        have hc' : W.heap[w'.heap.size]? = some (.cells cur 4 (0, 0)) := (hW.block _ hlt2).trans hc
        obtain ⟨r0, hr0⟩ := hm k hlt
        refine ⟨⟨.bool r0, by rw [cell_of_heap hc']; exact hr0⟩, frozen_of_heap hc' k, (hB.trans (hW.mono hB.size)).setCell (p := ⟨w'.heap.size, k, none⟩) (Nat.le_refl _) _, cur.setIfInBounds k (.bool r), heap_setCell_same W _ k _ _ _ hc', by simpa using hsz, fun j hj => ?_⟩
        by_cases e : k = j
        · subst e; exact ⟨r, by simp [hsz, hlt]⟩
        · rw [Array.getElem?_setIfInBounds_ne e]; exact hm j hj
      by_cases h0 : k = 0
      · subst h0
        obtain ⟨⟨v, hv⟩, hf, hBn, hcn⟩ := hstore wr true (Below.refl _ _)
        go_wp2
        go_roundw
        case rel => exact ⟨1, by omega, by go_num, hBn, hcn⟩
        case measure => simp [intOf]; omega
      · have q0 : ((k : Int) == 0) = false := by simp; omega
        have hM : Marks wr w'.heap.size ps.length := by
          obtain ⟨cur, hc, hsz, hm⟩ := hcur.out
          intro j hj
          obtain ⟨r, hr⟩ := hm j hj
          exact ⟨r, by rw [cell_of_heap hc]; exact hr⟩
        have hC := h.kept (Chg.of_below (fun _ => False) hB) (fun _ _ hf => hf)
        go_wp2_with fail
        refine (linkedFrom_any b S m ws ps vs _ _ _ w'.heap.size ps.length k wr hC hT hw hw2 hl hov hM (by omega) (by omega)).mono ?_
        rintro e w3 ⟨⟨r, rfl⟩, hB3⟩
        obtain ⟨⟨v, hv⟩, hf, hBn, hcn⟩ := hstore w3 r hB3
        clear hM hstore
        go_wp2
        go_roundw
        case rel => exact ⟨k + 1, by omega, by go_num, hBn, hcn⟩
        case measure => simp [intOf]; omega
    · go_wp2
      go_ret
      refine ⟨⟨w'.heap.size, by simp, ?_⟩, hB⟩
      obtain ⟨cur, hc, hsz, hm⟩ := hcur.out
      intro j hj
      obtain ⟨r, hr⟩ := hm j hj
      exact ⟨r, by rw [cell_of_heap hc]; exact hr⟩
end Go.Proofs.Ytalkalnncegicaa
