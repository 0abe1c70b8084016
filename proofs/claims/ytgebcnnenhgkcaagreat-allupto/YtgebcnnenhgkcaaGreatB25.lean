/- verdict, judge, Judge: what is answered, in new memory. -/
import Derived.Test.YtgebcnnenhgkcaaGreatB24
namespace Go.Proofs.YtgebcnnenhgkcaaGreat
open Go.RowKit Go.Shelf

/-- Two stores into a block. -/
theorem two_heap {W : World} {n : Nat} {c0 c1 : Value} {t : TypeId} (h : W.heap[n]? = some (.cells #[c0, c1] t (0, 0))) (a b : Value) : ((W.setCell ⟨n, 0, none⟩ a).setCell ⟨n, 1, none⟩ b).heap[n]? = some (.cells #[a, b] t (0, 0)) := by
  have h0 : (W.setCell ⟨n, 0, none⟩ a).heap[n]? = some (.cells #[a, c1] t (0, 0)) := heap_setCell_same _ n 0 _ _ _ h
  exact heap_setCell_same _ n 1 _ _ _ h0

set_option maxRecDepth 100000 in
set_option maxHeartbeats 4000000 in
theorem verdict_at (b gw cw g0 cap0 : Nat) (p1 p2 : Option Addr) (c1 c2 : Nat) (ws ps : List Int) (X Y : List LkV) (w : World) (h : SuitAt w b gw cw g0 cap0 p1 p2 c1 c2 ws ps X Y) (hT : Tree ps) (hW : OkWs ws) (hX : X.length ≤ 40) (hY : Y.length ≤ 40)
    (hbX : ∀ x ∈ X, ∀ u, OkB ps ⟨u, x.1.s, x.1.t⟩) (hbY : ∀ x ∈ Y, ∀ u, OkB ps ⟨u, x.1.s, x.1.t⟩) :
    Calls Tryz.prog 102 #[.pointer (some ⟨b, 0, none⟩)] w fun e w' => (∃ v, e = .returned (.agg #[v, .int .i64 (wSum ws ((judgeL ws.length ps (X.map (fun x => x.1)) (Y.map (fun x => x.1))).map (fun g => g.v)))]) ∧ w'.ownsRow w.heap.size 84 8 v (judgeL ws.length ps (X.map (fun x => x.1)) (Y.map (fun x => x.1))).length (guRow (judgeL ws.length ps (X.map (fun x => x.1)) (Y.map (fun x => x.1))))) ∧ Below w.heap.size w w' := by
  obtain ⟨i0, hi, hz0, hz1, hz2⟩ := info_parts info_guilt
  have hw12 := hW.le
  have HBX : Hid _ := hbX
  have HBY : Hid _ := hbY
  clear hbX hbY
  have hB0 : Below w.heap.size w ((w.alloc (.cells #[.slice none 0 0, I64 0] 74)).alloc (.cells #[.slice none 0 0, I64 0] 74)) := ((Below.refl _ w).alloc (Nat.le_refl _) _).alloc (by simp) _
  have h0 := (h.below hT hB0).h0
  go_enter Tryz.func102, Tryz.ntmps102
  go_wp2_with fail
  obtain ⟨W0, hW0⟩ : ∃ W0, (w.alloc (.cells #[.slice none 0 0, I64 0] 74)).alloc (.cells #[.slice none 0 0, I64 0] 74) = W0 := ⟨_, rfl⟩
  have hz0' : W0.heap.size = w.heap.size + 1 + 1 := by rw [← hW0]; simp
  have hr0 : W0.heap[w.heap.size]? = some (.cells #[.slice none 0 0, I64 0] 74 (0, 0)) := by rw [← hW0, Below.heap_alloc _ _ _ (by simp)]; exact heap_alloc_new w _
  have hv0 : W0.heap[w.heap.size + 1]? = some (.cells #[.slice none 0 0, I64 0] 74 (0, 0)) := by rw [← hW0]; have := heap_alloc_new (w.alloc (.cells #[.slice none 0 0, I64 0] 74)) (.cells #[.slice none 0 0, I64 0] 74); simpa using this
  rw [hW0] at hB0 ⊢
  clear hW0 h0
  go_loopw [13] (fun ii wr => ∃ (k : Nat) (v : Value) (m : Int), k ≤ ws.length ∧ ii = .int .i64 k ∧ Below w.heap.size w wr ∧ wr.heap[w.heap.size]? = some (.cells #[.slice none 0 0, I64 0] 74 (0, 0)) ∧ wr.heap[w.heap.size + 1]? = some (.cells #[v, I64 m] 74 (0, 0)) ∧ wr.ownsRow (w.heap.size + 1 + 1) 84 8 v (judgeL k ps (X.map (fun x => x.1)) (Y.map (fun x => x.1))).length (guRow (judgeL k ps (X.map (fun x => x.1)) (Y.map (fun x => x.1)))) ∧ 0 ≤ m ∧ m ≤ 100 * k ∧ Hid (wSum ws ((judgeL k ps (X.map (fun x => x.1)) (Y.map (fun x => x.1))).map (fun g => g.v)) = m)) (fun ii _ => ws.length - (intOf ii).toNat)
  case atStart => exact ⟨0, .slice none 0 0, 0, by omega, rfl, hB0, hr0, hv0, World.ownsRow_nil _ _ _ _, by omega, by omega, rfl⟩
  case round =>
    clear hB0 hr0 hv0
    obtain ⟨k, v, m, hk, rfl, hB, hr, hv, hown, hm0, hm1, HM⟩ := hrel
    have hz := hB.size
    have hlv := (Array.getElem?_eq_some_iff.1 hv).1
    by_cases hlt : k < ws.length
    · have hlt' : (k : Int) < (ws.length : Int) := by omega
      have hS := h.below hT hB
      have hcw := hS.ww k hlt
      obtain ⟨y, hy⟩ : ∃ y, ws[k]?.getD 0 = y := ⟨_, rfl⟩
      rw [hy] at hcw
      have hyb := hW.wAt (v := (k : Int)) (by simpa using hlt)
      unfold wAt at hyb
      simp only [Int.toNat_natCast, hy] at hyb
      have HS : Hid _ := judgeL_succ k ps (X.map (fun x => x.1)) (Y.map (fun x => x.1))
      have HY : Hid (wAt ws (k : Int) = y) := by show _ = _; unfold wAt; simp [hy]
      obtain ⟨G, hG⟩ : ∃ G, judgeL k ps (X.map (fun x => x.1)) (Y.map (fun x => x.1)) = G := ⟨_, rfl⟩
      have hgl : G.length ≤ 12 := by rw [← hG]; exact Nat.le_trans (judgeL_length _ _ _ _) (by omega)
      rw [hG] at hown HM
      have HG : Hid (judgeL k ps (X.map (fun x => x.1)) (Y.map (fun x => x.1)) = G) := hG
      clear hG hy
      have hgo := sGuiltOf_at b gw cw g0 cap0 p1 p2 c1 c2 ws ps X Y k wr hS hT hX hY (fun x hx => HBX.out x hx _) (fun x hx => HBY.out x hx _)
      cases hgv : judgeV ps (X.map (fun x => x.1)) (Y.map (fun x => x.1)) k with
      | none =>
        have HS' : Hid (judgeL (k + 1) ps (X.map (fun x => x.1)) (Y.map (fun x => x.1)) = G) := by show _ = _; rw [HS.out, HG.out, hgv]; simp
        rw [hgv] at hgo
        clear HS hgv
        go_wp2_with fail
        refine hgo.mono ?_
        rintro e w3 ⟨rfl, hB3⟩
        clear hgo
        have hB4 : Below w.heap.size w w3 := hB.trans (hB3.mono hz)
        have hv3 := (hB3.block _ hlv).trans hv
        have hr3 := (hB3.block (w.heap.size) (by omega)).trans hr
        have hown3 := row_below hown hB3 (Nat.le_refl _)
        have hz3 := hB3.size
        go_wp2
        go_roundw
        case rel => exact ⟨k + 1, v, m, by omega, by go_num, hB4.alloc hB4.size _, (Below.heap_alloc _ _ _ (by omega)).trans hr3, (Below.heap_alloc _ _ _ (by omega)).trans hv3, by rw [HS'.out]; exact hown3.alloc _, hm0, by omega, by rw [HS'.out]; exact HM⟩
        case measure => simp [intOf]; omega
      | some gu =>
        have hgu := (judgeV_some hgv).1
        have HS' : Hid (judgeL (k + 1) ps (X.map (fun x => x.1)) (Y.map (fun x => x.1)) = G ++ [gu]) := by show _ = _; rw [HS.out, HG.out, hgv]; rfl
        have HM' : Hid (wSum ws ((G ++ [gu]).map (fun g => g.v)) = m + y) := by
          show _ = _
          rw [List.map_append]
          unfold wSum at HM ⊢
          rw [List.map_append, sumI_append, HM.out]
          simp only [List.map_cons, List.map_nil, sumI_cons, sumI_nil]
          rw [hgu, HY.out]; omega
        rw [hgv] at hgo
        clear HS hgv hgu
        have h63 : Hid (G.length + 1 ≤ maxLen) := by show _ ≤ _; unfold maxLen; omega
        obtain ⟨pG, cG, hvs⟩ := row_slice hown
        subst hvs
        go_wp2_with fail
        refine hgo.mono ?_
        rintro e w3 ⟨rfl, hB3⟩
        clear hgo
        have hB4 : Below w.heap.size w w3 := hB.trans (hB3.mono hz)
        have hv3 := (hB3.block _ hlv).trans hv
        have hr3 := (hB3.block (w.heap.size) (by omega)).trans hr
        have hown3 := row_below hown hB3 (Nat.le_refl _)
        have hz3 := hB3.size
        have c0 : w3.cell? ⟨w.heap.size + 1, 0, none⟩ = some (.slice pG G.length cG) := by rw [cell_of_heap hv3]; rfl
        have c1' : w3.cell? ⟨w.heap.size + 1, 1, none⟩ = some (I64 m) := by rw [cell_of_heap hv3]; rfl
        have cz : ∀ o, w3.frozen? ⟨w.heap.size + 1, o, none⟩ = false := fun o => frozen_of_heap hv3 o
        have hl3 : w.heap.size + 1 < w3.heap.size := by omega
        have HV3 : Hid _ := hv3
        have HR3 : Hid _ := hr3
        clear hv3 hr3 hv hr
        go_wp2_with (at_builtin; refine wpList_append_own _ (by rfl) _ _ _ (by rfl) (w.heap.size + 1 + 1) 84 i0 (.agg #[I64 0, I64 0, I64 0, I64 0, I64 0, I64 0, I64 0, I64 0]) 8 64 Tryz.underlying72 hi hz0 hz1 hz2 rfl (by omega) _ G.length (guRow G) (by rfl) ((hown3.alloc _).alloc _) ⟨w3.heap.size + 1, 0, none⟩ 1 1 (guCells gu) (by rfl) (by rfl) (cells_two _ _ #[I64 gu.v, I64 gu.k, I64 gu.a.v, I64 gu.a.s, I64 gu.a.t, I64 gu.b.v, I64 gu.b.s, I64 gu.b.t] _) (by simp [guCells, Value.oneCell']) h63.out (by omega) (by simp; omega) ?_; intro v1 w1 hown1 hgrow1 hnil1; have hblk : ∀ q, q < w.heap.size + 1 + 1 → w1.heap[q]? = w3.heap[q]? := (fun q hq => (hgrow1.block q (by simp; omega) (fun e => by have := (hown3.lt q e.symm).1; omega)).trans ((Below.heap_alloc _ _ _ (by simp; omega)).trans (Below.heap_alloc _ _ _ (by omega)))); have d0 : w1.cell? ⟨w.heap.size + 1, 0, none⟩ = some (.slice pG G.length cG) := (World.cell?_of_block (hblk (w.heap.size + 1) (by omega))).trans c0; have d1 : w1.cell? ⟨w.heap.size + 1, 1, none⟩ = some (I64 m) := (World.cell?_of_block (hblk (w.heap.size + 1) (by omega))).trans c1'; have dz : ∀ o, w1.frozen? ⟨w.heap.size + 1, o, none⟩ = false := (fun o => (World.frozen?_of_block (hblk (w.heap.size + 1) (by omega))).trans (cz o)); have HBL : Hid (∀ q, q < w.heap.size + 1 + 1 → w1.heap[q]? = w3.heap[q]?) := hblk; clear hblk; obtain ⟨pN, cN, hvN⟩ := row_slice hown1; subst hvN)
        have hv1 : w1.heap[w.heap.size + 1]? = some (.cells #[.slice pG G.length cG, I64 m] 74 (0, 0)) := (HBL.out (w.heap.size + 1) (by omega)).trans HV3.out
        have hr1 : w1.heap[w.heap.size]? = some (.cells #[.slice none 0 0, I64 0] 74 (0, 0)) := (HBL.out w.heap.size (by omega)).trans HR3.out
        have hB1 : Below w.heap.size w w1 := ((hB4.alloc (by omega) _).alloc (by simp; omega) _).grown hgrow1 (by simp; omega) (fun j e => by have := (hown3.lt j e).1; omega)
        have h2w := two_heap hv1 (.slice pN (G.length + 1) cN) (I64 (m + y))
        have hrow2 := row_setCell (b := w.heap.size + 1) (row_setCell (b := w.heap.size + 1) (row_low hown1) 0 (.slice pN (G.length + 1) cN) (fun e => by have := (hown1.lt _ e).1; omega)) 1 (I64 (m + y)) (fun e => by have := (hown1.lt _ e).1; omega)
        go_roundw
        case rel =>
          refine ⟨k + 1, .slice pN (G.length + 1) cN, m + y, by omega, by go_num, (hB1.setCell (p := ⟨w.heap.size + 1, 0, none⟩) (by dsimp only; omega) _).setCell (p := ⟨w.heap.size + 1, 1, none⟩) (by dsimp only; omega) _, ?_, h2w, ?_, by omega, by omega, by rw [HS'.out]; exact HM'⟩
          · rw [Below.heap_setCell _ _ _ _ (by dsimp only; omega), Below.heap_setCell _ _ _ _ (by dsimp only; omega)]; exact hr1
          · rw [HS'.out, guRow_append, List.length_append]
            refine ⟨by simpa [guRow] using hrow2.1, ?_⟩
            rcases hrow2.2 with h9 | ⟨g, cap, cur, h9, _, h10⟩
            · exact .inl h9
            · exact .inr ⟨g, cap, cur, h9, (hown1.lt g (by rw [h9]; rfl)).1, by simpa [guRow] using h10⟩
        case measure => simp [intOf]; omega
    · have hkk : k = ws.length := by omega
      obtain ⟨pG, cG, hvs⟩ := row_slice hown
      subst hvs
      obtain ⟨G, hG⟩ : ∃ G, judgeL k ps (X.map (fun x => x.1)) (Y.map (fun x => x.1)) = G := ⟨_, rfl⟩
      have hGn : judgeL ws.length ps (X.map (fun x => x.1)) (Y.map (fun x => x.1)) = G := by rw [← hkk]; exact hG
      rw [hG] at hv hown HM
      have HGN : Hid (judgeL ws.length ps (X.map (fun x => x.1)) (Y.map (fun x => x.1)) = G) := hGn
      have c0 : wr.cell? ⟨w.heap.size + 1, 0, none⟩ = some (.slice pG G.length cG) := by rw [cell_of_heap hv]; rfl
      have c1' : wr.cell? ⟨w.heap.size + 1, 1, none⟩ = some (I64 m) := by rw [cell_of_heap hv]; rfl
      have z0 : wr.cell? ⟨w.heap.size, 0, none⟩ = some (.slice none 0 0) := by rw [cell_of_heap hr]; rfl
      have z1 : wr.cell? ⟨w.heap.size, 1, none⟩ = some (I64 0) := by rw [cell_of_heap hr]; rfl
      have fz : ∀ o, wr.frozen? ⟨w.heap.size, o, none⟩ = false := fun o => frozen_of_heap hr o
      have HR : Hid _ := hr
      clear hr hG hGn hkk hv
      go_wp2
      have h2w := two_heap HR.out (.slice pG G.length cG) (I64 m)
      have y0 : ((wr.setCell ⟨w.heap.size, 0, none⟩ (.slice pG G.length cG)).setCell ⟨w.heap.size, 1, none⟩ (I64 m)).cell? ⟨w.heap.size, 0, none⟩ = some (.slice pG G.length cG) := by rw [cell_of_heap h2w]; rfl
      have y1 : ((wr.setCell ⟨w.heap.size, 0, none⟩ (.slice pG G.length cG)).setCell ⟨w.heap.size, 1, none⟩ (I64 m)).cell? ⟨w.heap.size, 1, none⟩ = some (I64 m) := by rw [cell_of_heap h2w]; rfl
      refine ⟨rfl, .agg #[.slice pG G.length cG, I64 m], ?_, ⟨_, by rw [HGN.out, HM.out], ?_⟩, (hB.setCell (p := ⟨w.heap.size, 0, none⟩) (Nat.le_refl _) _).setCell (p := ⟨w.heap.size, 1, none⟩) (Nat.le_refl _) _⟩
      · simp only [results, Tryz.f102]
        simp [go_sem, y0, y1]
      · rw [HGN.out]
        exact row_lower (row_set (row_set hown w.heap.size 0 _ (by omega)) w.heap.size 1 _ (by omega)) (by omega)
end Go.Proofs.YtgebcnnenhgkcaaGreat
/- judge, Judge: what is answered, in new memory. -/
namespace Go.Proofs.YtgebcnnenhgkcaaGreat
open Go.RowKit Go.Shelf

def parB (ps : List Int) (i : Nat) : Bool := decide (0 ≤ ps[i]?.getD 0) && decide (ps[i]?.getD 0 < (i : Int))
def parsB (ps : List Int) : Nat → Bool
  | 0 => true
  | k + 1 => parsB ps k && (decide (k = 0) || parB ps k)
theorem parsB_iff {ps : List Int} : ∀ {n : Nat}, parsB ps n = true ↔ ∀ i, 0 < i → i < n → 0 ≤ ps[i]?.getD 0 ∧ ps[i]?.getD 0 < (i : Int) := by
  intro n
  induction n with
  | zero => simp [parsB]
  | succ n ih =>
    simp only [parsB, Bool.and_eq_true, ih, Bool.or_eq_true, decide_eq_true_eq, parB]
    constructor
    · rintro ⟨h1, h2⟩ i hi hl
      by_cases e : i = n
      · subst e
        rcases h2 with h2 | h2
        · omega
        · exact h2
      · exact h1 i hi (by omega)
    · intro h
      refine ⟨fun i hi hl => h i hi (by omega), ?_⟩
      by_cases e : n = 0
      · exact .inl e
      · exact .inr (h n (by omega) (by omega))
theorem parsB_up {ps : List Int} {k n : Nat} (h : parsB ps k = false) (hk : k ≤ n) : parsB ps n = false := by
  rw [Bool.eq_false_iff] at h ⊢
  intro h1
  apply h
  rw [parsB_iff] at h1 ⊢
  exact fun i hi hl => h1 i hi (by omega)
def treeB (ps : List Int) : Bool := (decide (1 ≤ ps.length) && decide (ps.length ≤ 40)) && ((ps[0]?.getD 0 == 0) && parsB ps ps.length)
theorem treeB_iff {ps : List Int} : treeB ps = true ↔ Tree ps := by
  unfold treeB Tree
  simp only [Bool.and_eq_true, decide_eq_true_eq, beq_iff_eq, parsB_iff]
  constructor
  · rintro ⟨⟨h1, h2⟩, h3, h4⟩; exact ⟨by omega, h2, h3, h4⟩
  · rintro ⟨h1, h2, h3, h4⟩; exact ⟨⟨by omega, h2⟩, h3, h4⟩

set_option maxRecDepth 100000 in
set_option maxHeartbeats 2000000 in
theorem treeRight_at (p : Option Addr) (c : Nat) (ps : List Int) (w : World) (hx : IntsAt w p ps) (hl : ps.length ≤ maxLen) :
    Calls Tryz.prog 61 #[.slice p ps.length c] w fun e w' => e = .returned (.bool (treeB ps)) ∧ w' = w := by
  have hml : ps.length ≤ 9223372036854775807 := by unfold maxLen at hl; omega
  clear hl
  by_cases hn1 : ps.length < 1
  · have hn1' : (ps.length : Int) < 1 := by omega
    have HB : Hid (treeB ps = false) := by show _ = _; unfold treeB; simp; omega
    go_enter Tryz.func61, Tryz.ntmps61
    go_wp2
    go_ret
    exact ⟨by rw [HB.out]; rfl, rfl⟩
  have hn1' : ¬ (ps.length : Int) < 1 := by omega
  by_cases hn2 : ps.length > 40
  · have hn2' : (ps.length : Int) > 40 := by omega
    have HB : Hid (treeB ps = false) := by show _ = _; unfold treeB; simp; omega
    go_enter Tryz.func61, Tryz.ntmps61
    go_wp2
    go_ret
    exact ⟨by rw [HB.out]; rfl, rfl⟩
  have hn2' : ¬ (ps.length : Int) > 40 := by omega
  rcases hx with rfl | ⟨g, o, rfl, hcs⟩
  · simp at hn1
  have h0p : (0 : Int) < (ps.length : Int) := by omega
  have h0n : 0 < ps.length := by omega
  obtain ⟨y, hy⟩ : ∃ y, ps[0]?.getD 0 = y := ⟨_, rfl⟩
  have hc0 : w.cell? ⟨g, o, none⟩ = some (I64 y) := by have := hcs 0 h0n; rw [hy] at this; simpa using this
  have HT : Hid (treeB ps = ((y == 0) && parsB ps ps.length)) := by
    show _ = _
    unfold treeB
    have q1 : decide (1 ≤ ps.length) = true := by simp; omega
    have q2 : decide (ps.length ≤ 40) = true := by simp; omega
    rw [q1, q2, hy]; rfl
  have HCS : Hid (∀ j, j < ps.length → w.cell? ⟨g, o + j, none⟩ = some (I64 (ps[j]?.getD 0))) := hcs
  clear hcs hy
  by_cases hy0 : y = 0
  · have q : (y != 0) = false := by simpa using hy0
    have HT' : Hid (treeB ps = parsB ps ps.length) := by show _ = _; rw [HT.out, hy0]; simp
    clear HT hy0
    go_enter Tryz.func61, Tryz.ntmps61
    go_wp2_with fail
    go_loop [3] (fun i => ∃ k : Nat, 1 ≤ k ∧ k ≤ ps.length ∧ i = .int .i64 k ∧ Hid (parsB ps k = true)) (fun i => ps.length - (intOf i).toNat)
    case atStart => exact ⟨1, by omega, by omega, rfl, rfl⟩
    case round =>
      obtain ⟨k, hk1, hk, rfl, HP⟩ := hrel
      by_cases hlt : k < ps.length
      · have hlt' : (k : Int) < (ps.length : Int) := by omega
        obtain ⟨z, hz⟩ : ∃ z, ps[k]?.getD 0 = z := ⟨_, rfl⟩
        have hcz : w.cell? ⟨g, o + k, none⟩ = some (I64 z) := by rw [← hz]; exact HCS.out k hlt
        have HS : Hid (parsB ps (k + 1) = (decide (0 ≤ z) && decide (z < (k : Int)))) := by
          show _ = _
          simp only [parsB]
          rw [HP.out, Bool.true_and]
          unfold parB
          rw [hz]
          have : decide (k = 0) = false := by simp; omega
          rw [this, Bool.false_or]
        have HF : Hid (parsB ps (k + 1) = false → treeB ps = false) := fun hf => by rw [HT'.out]; exact parsB_up hf (by omega)
        clear hz
        by_cases c1 : z < 0
        · have HB : Hid (treeB ps = false) := HF.out (by rw [HS.out]; simp; omega)
          clear HS HF
          go_wp2
          go_ret
          exact ⟨by rw [HB.out]; rfl, rfl⟩
        · by_cases c2 : z ≥ (k : Int)
          · have HB : Hid (treeB ps = false) := HF.out (by rw [HS.out]; simp; omega)
            clear HS HF
            go_wp2
            go_ret
            exact ⟨by rw [HB.out]; rfl, rfl⟩
          · have HB : Hid (parsB ps (k + 1) = true) := by show _ = _; rw [HS.out]; simp; omega
            clear HS HF
            go_wp2
            go_round
            case rel => exact ⟨k + 1, by omega, by omega, by go_num, HB⟩
            case measure => simp [intOf]; omega
      · have hkk : k = ps.length := by omega
        have HB : Hid (treeB ps = true) := by show _ = _; rw [HT'.out, ← hkk]; exact HP.out
        clear hkk
        go_wp2
        go_ret
        exact ⟨by rw [HB.out]; rfl, rfl⟩
  · have q : (y != 0) = true := by simpa using hy0
    have HB : Hid (treeB ps = false) := by show _ = _; rw [HT.out]; simp [hy0]
    clear HT hy0
    go_enter Tryz.func61, Tryz.ntmps61
    go_wp2
    go_ret
    exact ⟨by rw [HB.out]; rfl, rfl⟩

theorem grown_at (g o c : Nat) (ps : List Int) (w : World) (hx : ∀ j, j < ps.length → w.cell? ⟨g, o + j, none⟩ = some (I64 (ps[j]?.getD 0))) (h0 : 0 < ps.length) (hl : ps.length ≤ 40) :
    Calls Tryz.prog 62 #[.slice (some ⟨g, o, none⟩) ps.length c] w fun e w' => (∃ g1 cap, e = .returned (.agg #[.slice (some ⟨g1, 0, none⟩) ps.length cap]) ∧ w'.ownsRow w.heap.size 3 1 (.slice (some ⟨g1, 0, none⟩) ps.length cap) ps.length (ps.map I64)) ∧ Below w.heap.size w w' := by
  have hBa : Below w.heap.size w (w.alloc (.cells #[.slice none 0 0] 98)) := (Below.refl _ w).alloc (Nat.le_refl _) _
  have hgl : g < w.heap.size := World.block_lt_of_cell? w _ (hx 0 h0)
  go_enter Tryz.func62, Tryz.ntmps62
  go_wp2_with fail
  obtain ⟨wa, hwa⟩ : ∃ wa, w.alloc (.cells #[.slice none 0 0] 98) = wa := ⟨_, rfl⟩
  have hra : wa.heap[w.heap.size]? = some (.cells #[.slice none 0 0] 98 (0, 0)) := by rw [← hwa]; exact heap_alloc_new w _
  have hza : wa.heap.size = w.heap.size + 1 := by rw [← hwa]; simp
  rw [hwa] at hBa ⊢
  clear hwa
  refine (cloneTree_at g o c ps wa (fun j hj => (hBa.cell (p := ⟨g, o + j, none⟩) hgl).trans (hx j hj)) h0 hl).mono ?_
  rintro e w1 ⟨g1, cap, rfl, hown, hg1, hB1⟩
  have hr1 : w1.heap[w.heap.size]? = some (.cells #[.slice none 0 0] 98 (0, 0)) := (hB1.block _ (by omega)).trans hra
  have z0 : w1.cell? ⟨w.heap.size, 0, none⟩ = some (.slice none 0 0) := by rw [cell_of_heap hr1]; rfl
  have fz : w1.frozen? ⟨w.heap.size, 0, none⟩ = false := frozen_of_heap hr1 0
  clear hx
  go_wp2
  have y0 : (w1.setCell ⟨w.heap.size, 0, none⟩ (.slice (some ⟨g1, 0, none⟩) ps.length cap)).cell? ⟨w.heap.size, 0, none⟩ = some (.slice (some ⟨g1, 0, none⟩) ps.length cap) := World.cell?_setCell_same' _ _ _ (by rw [z0]; rfl)
  refine ⟨rfl, .agg #[.slice (some ⟨g1, 0, none⟩) ps.length cap], ?_, ⟨g1, cap, rfl, ?_⟩, (hBa.trans (hB1.mono (by omega))).setCell (p := ⟨w.heap.size, 0, none⟩) (Nat.le_refl _) _⟩
  · simp only [results, Tryz.f62]
    simp [go_sem, y0]
  · have hr := row_setCell (b := w.heap.size) hown 0 (.slice (some ⟨g1, 0, none⟩) ps.length cap) (by simp [Value.ownBlock]; omega)
    refine ⟨hr.1, ?_⟩
    rcases hr.2 with h9 | ⟨g', cap', cur, h9, _, h10⟩
    · exact .inl h9
    · refine .inr ⟨g', cap', cur, h9, ?_, h10⟩
      simp only [Value.slice.injEq, Option.some.injEq, Addr.mk.injEq] at h9
      omega

theorem isRight_at (b gw cw g0 cap0 : Nat) (p1 p2 : Option Addr) (c1 c2 : Nat) (ws ps : List Int) (X Y Z : List LkV) (p : Option Addr) (c : Nat) (w : World) (h : SuitAt w b gw cw g0 cap0 p1 p2 c1 c2 ws ps X Y) (hT : Tree ps) (hW : OkWs ws) (hZ : LkAt w p Z) (hm : Z.length ≤ maxLen) :
    Calls Tryz.prog 99 #[.pointer (some ⟨b, 0, none⟩), .slice p Z.length c] w fun e w' => e = .returned (.bool (rightB ws ps (Z.map (fun x => x.1)))) ∧ Below w.heap.size w w' := by
  have h0 := h.h0
  have hBd : Below w.heap.size w w.drew := (Below.refl _ w).drew
  have hd := h.below hT hBd
  have hpr := pRight_at b 1 g0 cap0 gw cw ws ps Z p c w.drew hd.tr hd.ww hT hW (hZ.below hBd) hm
  have hlb := h.tr.lt_b
  go_enter Tryz.func99, Tryz.ntmps99
  go_wp2_with fail
  go_region_held3 (fun w' => w'.cell? ⟨b, 0, none⟩ = some (.slice (some ⟨gw, 0, none⟩) ws.length cw))
    (first | assumption | simpa)
    ((go_at_call 124; refine hpr.mono ?_; rintro e w7 ⟨rfl, hB7⟩; have hB7' : Below w.heap.size w w7 := hBd.trans hB7; have h0' := (hB7'.cell (p := ⟨b, 0, none⟩) hlb).trans h0; clear hB7))
  go_wp2
  go_ret
  exact ⟨rfl, hB7'⟩
end Go.Proofs.YtgebcnnenhgkcaaGreat
/- judge, Judge. -/
namespace Go.Proofs.YtgebcnnenhgkcaaGreat
open Go.RowKit Go.Shelf

def agreeB (ps : List Int) (x y : Int) : Bool := x == y || (ahead ps x y || ahead ps y x)
/-- The error of two proofs over a tree. -/
def suitE (ws ps : List Int) (L M : List Lk) : Int := if (rightB ws ps L && rightB ws ps M) = false then 9 else if agreeB ps (lastS L) (lastS M) = true then 10 else 0
def suitG (ws ps : List Int) (L M : List Lk) : List Gu := if suitE ws ps L M = 0 then judgeL ws.length ps L M else []
/-- What Judge answers: the error, the guilty. -/
def judgeE (ws ps : List Int) (L M : List Lk) : Int := if okW ws = false then 1 else if treeB ps = false then 2 else suitE ws ps L M
def judgeG (ws ps : List Int) (L M : List Lk) : List Gu := if judgeE ws ps L M = 0 then judgeL ws.length ps L M else []
/-- The weight of the guilty. -/
def guW (ws : List Int) (G : List Gu) : Int := wSum ws (G.map (fun g => g.v))
theorem guW_nil (ws : List Int) : guW ws [] = 0 := rfl

theorem rt_last {ws ps : List Int} (hT : Tree ps) {L : List Lk} (h : rightB ws ps L = true) : 0 ≤ lastS L ∧ (lastS L).toNat < ps.length ∧ 0 < L.length ∧ L.length ≤ 40 := by
  have hR := rt_of hT h
  have h1 := hR.chain.ok hT (L.length - 1) (by omega)
  rw [← hR.last] at h1
  exact ⟨h1.1, h1.2, by have := hR.pos; omega, hR.le⟩
theorem rt_okB {ws ps : List Int} (hT : Tree ps) {L : List Lk} (h : rightB ws ps L = true) {l : Lk} (hl : l ∈ L) (u : Int) : OkB ps ⟨u, l.s, l.t⟩ := by
  have hR := rt_of hT h
  obtain ⟨i, hi⟩ := List.mem_iff_getElem?.1 hl
  have ht := hR.chain.t i l hi
  have hlt := mem_up_lt hT (by omega) ht.2.1 ht.2.2
  exact ⟨by dsimp only; omega, by dsimp only; omega, by dsimp only; omega, ht.2.1⟩

set_option maxRecDepth 100000 in
set_option maxHeartbeats 4000000 in
theorem sJudge_at (b gw cw g0 cap0 : Nat) (p1 p2 : Option Addr) (c1 c2 : Nat) (ws ps : List Int) (X Y : List LkV) (w : World) (h : SuitAt w b gw cw g0 cap0 p1 p2 c1 c2 ws ps X Y) (hT : Tree ps) (hW : OkWs ws) (hX : X.length ≤ maxLen) (hY : Y.length ≤ maxLen) :
    Calls Tryz.prog 63 #[.pointer (some ⟨b, 0, none⟩)] w fun e w' => (∃ v, e = .returned (.tuple #[.agg #[v, .int .i64 (guW ws (suitG ws ps (X.map (fun x => x.1)) (Y.map (fun x => x.1))))], .int .i64 (suitE ws ps (X.map (fun x => x.1)) (Y.map (fun x => x.1)))]) ∧ w'.ownsRow w.heap.size 84 8 v (suitG ws ps (X.map (fun x => x.1)) (Y.map (fun x => x.1))).length (guRow (suitG ws ps (X.map (fun x => x.1)) (Y.map (fun x => x.1))))) ∧ Below w.heap.size w w' := by
  have hB0 : Below w.heap.size w (w.alloc (.cells #[.slice none 0 0, I64 0] 74)) := (Below.refl _ w).alloc (Nat.le_refl _) _
  have a2 := (h.below hT hB0).h2
  obtain ⟨L, hL⟩ : ∃ L, X.map (fun x => x.1) = L := ⟨_, rfl⟩
  obtain ⟨M, hM⟩ : ∃ M, Y.map (fun x => x.1) = M := ⟨_, rfl⟩
  have hr1 := fun W hS => isRight_at b gw cw g0 cap0 p1 p2 c1 c2 ws ps X Y X p1 c1 W hS hT hW hS.one hX
  have hr2 := fun W hS => isRight_at b gw cw g0 cap0 p1 p2 c1 c2 ws ps X Y Y p2 c2 W hS hT hW hS.oth hY
  have hvd := fun W hS => verdict_at b gw cw g0 cap0 p1 p2 c1 c2 ws ps X Y W hS hT hW
  have hs1 := fun W hS => shown_at X p1 c1 W hS
  have hs2 := fun W hS => shown_at Y p2 c2 W hS
  have HXl : Hid (X.length = L.length) := by show _ = _; rw [← hL]; simp
  have HYl : Hid (Y.length = M.length) := by show _ = _; rw [← hM]; simp
  have HXM : Hid (∀ x ∈ X, x.1 ∈ L) := fun x hx => by rw [← hL]; exact List.mem_map.2 ⟨x, hx, rfl⟩
  have HYM : Hid (∀ x ∈ Y, x.1 ∈ M) := fun x hx => by rw [← hM]; exact List.mem_map.2 ⟨x, hx, rfl⟩
  rw [hL] at hr1 hvd hs1 ⊢
  rw [hM] at hr2 hvd hs2 ⊢
  have HVD : Hid _ := hvd
  have HS1 : Hid _ := hs1
  have HS2 : Hid _ := hs2
  have HR2 : Hid _ := hr2
  have HR1 : Hid _ := hr1
  clear hL hM hvd hs1 hs2 hr2 hr1
  have fin : ∀ (W : World) (v : Value) (k _er : Int), Below w.heap.size w W → W.heap[w.heap.size]? = some (.cells #[.slice none 0 0, I64 0] 74 (0, 0)) → ((W.setCell ⟨w.heap.size, 0, none⟩ v).setCell ⟨w.heap.size, 1, none⟩ (I64 k)).cell? ⟨w.heap.size, 0, none⟩ = some v ∧ ((W.setCell ⟨w.heap.size, 0, none⟩ v).setCell ⟨w.heap.size, 1, none⟩ (I64 k)).cell? ⟨w.heap.size, 1, none⟩ = some (I64 k) ∧ Below w.heap.size w ((W.setCell ⟨w.heap.size, 0, none⟩ v).setCell ⟨w.heap.size, 1, none⟩ (I64 k)) := fun W v k _ hB hr => by
    have h2w := two_heap hr v (I64 k)
    exact ⟨by rw [cell_of_heap h2w]; rfl, by rw [cell_of_heap h2w]; rfl, (hB.setCell (p := ⟨w.heap.size, 0, none⟩) (Nat.le_refl _) _).setCell (p := ⟨w.heap.size, 1, none⟩) (Nat.le_refl _) _⟩
  have HFIN : Hid _ := fin
  clear fin
  go_enter Tryz.func63, Tryz.ntmps63
  go_wp2_with fail
  obtain ⟨wa, hwa⟩ : ∃ wa, w.alloc (.cells #[.slice none 0 0, I64 0] 74) = wa := ⟨_, rfl⟩
  have hra : wa.heap[w.heap.size]? = some (.cells #[.slice none 0 0, I64 0] 74 (0, 0)) := by rw [← hwa]; exact heap_alloc_new w _
  have hza : wa.heap.size = w.heap.size + 1 := by rw [← hwa]; simp
  rw [hwa] at hB0 ⊢
  clear hwa a2
  have ha := h.below hT hB0
  refine (HR1.out wa ha).mono ?_
  rintro e w1 ⟨rfl, hB1⟩
  have hBw1 : Below w.heap.size w w1 := hB0.trans (hB1.mono (by omega))
  have hr1 := (hB1.block w.heap.size (by omega)).trans hra
  have hS1 := ha.below hT hB1
  have nobad : ∀ (W : World) (_er : Int), Below w.heap.size w W → W.heap[w.heap.size]? = some (.cells #[.slice none 0 0, I64 0] 74 (0, 0)) → (W.cell? ⟨w.heap.size, 0, none⟩ = some (.slice none 0 0) ∧ W.cell? ⟨w.heap.size, 1, none⟩ = some (I64 0)) ∧ ∀ o, W.frozen? ⟨w.heap.size, o, none⟩ = false := fun W _ _ hr => ⟨⟨by rw [cell_of_heap hr]; rfl, by rw [cell_of_heap hr]; rfl⟩, fun o => frozen_of_heap hr o⟩
  have HNB : Hid _ := nobad
  clear nobad
  cases hq1 : rightB ws ps L
  · have HE : Hid (suitE ws ps L M = 9) := by show _ = _; unfold suitE; rw [hq1]; rfl
    have HG : Hid (suitG ws ps L M = []) := by show _ = _; unfold suitG; rw [HE.out]; rfl
    clear hq1
    obtain ⟨⟨z0, z1⟩, fz⟩ := HNB.out w1 0 hBw1 hr1
    have HR : Hid _ := hr1
    clear hr1
    go_wp2
    obtain ⟨y0, y1, hBf⟩ := HFIN.out w1 (.slice none 0 0) 0 0 hBw1 HR.out
    refine ⟨rfl, .tuple #[.agg #[.slice none 0 0, I64 0], .int .i64 9], ?_, ⟨_, by rw [HE.out, HG.out]; rfl, by rw [HG.out]; exact World.ownsRow_nil _ _ _ _⟩, hBf⟩
    simp only [results, Tryz.f63]
    simp [go_sem, y0, y1]
  have hS1h := hS1.h3
  go_wp2_with fail
  refine (HR2.out w1 hS1).mono ?_
  rintro e w2 ⟨rfl, hB2⟩
  have hBw2 : Below w.heap.size w w2 := hBw1.trans (hB2.mono hBw1.size)
  have hz1 := hBw1.size
  have hr2 := (hB2.block w.heap.size (by have := hB1.size; omega)).trans hr1
  have hS2 := hS1.below hT hB2
  clear hS1h hr1
  cases hq2 : rightB ws ps M
  · have HE : Hid (suitE ws ps L M = 9) := by show _ = _; unfold suitE; rw [hq1, hq2]; rfl
    have HG : Hid (suitG ws ps L M = []) := by show _ = _; unfold suitG; rw [HE.out]; rfl
    clear hq1 hq2
    obtain ⟨⟨z0, z1⟩, fz⟩ := HNB.out w2 0 hBw2 hr2
    have HR : Hid _ := hr2
    clear hr2
    go_wp2
    obtain ⟨y0, y1, hBf⟩ := HFIN.out w2 (.slice none 0 0) 0 0 hBw2 HR.out
    refine ⟨rfl, .tuple #[.agg #[.slice none 0 0, I64 0], .int .i64 9], ?_, ⟨_, by rw [HE.out, HG.out]; rfl, by rw [HG.out]; exact World.ownsRow_nil _ _ _ _⟩, hBf⟩
    simp only [results, Tryz.f63]
    simp [go_sem, y0, y1]
  obtain ⟨l0, l1, l2, l3⟩ := rt_last hT hq1
  obtain ⟨m0, m1, m2, m3⟩ := rt_last hT hq2
  have hSE : suitE ws ps L M = if agreeB ps (lastS L) (lastS M) = true then 10 else 0 := by unfold suitE; rw [hq1, hq2]; rfl
  have hag := fun W hA => agree_at b 1 g0 cap0 ps hT (lastS L) (lastS M) l0 l1 m0 m1 W hA
  have hfold : (lastS L == lastS M || (ahead ps (lastS L) (lastS M) || ahead ps (lastS M) (lastS L))) = agreeB ps (lastS L) (lastS M) := rfl
  rw [hfold] at hag
  have hvd := HVD.out
  have HVD2 : Hid (∀ W (hS : SuitAt W b gw cw g0 cap0 p1 p2 c1 c2 ws ps X Y), _) := fun W hS => hvd W hS (by have := HXl.out; omega) (by have := HYl.out; omega) (fun x hx u => rt_okB hT hq1 (HXM.out x hx) u) (fun x hx u => rt_okB hT hq2 (HYM.out x hx) u)
  clear hq1 hq2 hfold hvd HVD
  obtain ⟨ll, hll⟩ : ∃ ll, lastS L = ll := ⟨_, rfl⟩
  obtain ⟨lm, hlm⟩ : ∃ lm, lastS M = lm := ⟨_, rfl⟩
  have hs1 := fun W hS => HS1.out W hS (by have := HXl.out; omega) (by have := HXl.out; omega)
  have hs2 := fun W hS => HS2.out W hS (by have := HYl.out; omega) (by have := HYl.out; omega)
  rw [hll] at hag hs1 hSE
  rw [hlm] at hag hs2 hSE
  obtain ⟨qa, hqa⟩ : ∃ qa, agreeB ps ll lm = qa := ⟨_, rfl⟩
  rw [hqa] at hag hSE
  have HSE : Hid _ := hSE
  have k2 := hS2.h2
  have k3 := hS2.h3
  have hBd : Below w2.heap.size w2 w2.drew := (Below.refl _ w2).drew
  have hSd := hS2.below hT hBd
  have hlb2 := hS2.tr.lt_b
  clear hll hlm hqa hSE l0 l1 m0 m1
  go_wp2_with fail
  refine wp_region_held_drew (S := fun w' => w'.cell? ⟨b, 2, none⟩ = some (.slice p1 X.length c1) ∧ w'.cell? ⟨b, 3, none⟩ = some (.slice p2 Y.length c2)) (by kernel_rfl) ⟨k2, k3⟩ (fun hHeld => ?_)
  refine takeH (i := 0) (v := ?vv1) rfl (by kernel_rfl) (by kernel_rfl) (by kernel_rfl) (fun _ _ _ h => h) (Or.inl ⟨by rfl, ?hy1⟩) (by assumption) ?rest1
  case hy1 => (intro w hSw; (try dsimp only at hSw); go_simp; try with_reducible rfl)
  try simp only [Act.put, List.setIfInBounds_toArray, List.set_cons_zero, List.set_cons_succ]
  refine takeH (i := 1) (v := ?vv2) rfl (by kernel_rfl) (by kernel_rfl) (by kernel_rfl) (fun _ _ _ h => h) (Or.inl ⟨by rfl, ?hy2⟩) (by assumption) ?rest2
  case hy2 => (intro w hSw; (try dsimp only at hSw); go_simp; try with_reducible rfl)
  try simp only [Act.put, List.setIfInBounds_toArray, List.set_cons_zero, List.set_cons_succ]
  refine takeH (i := 2) (v := ?vv3) rfl (by kernel_rfl) (by kernel_rfl) (by kernel_rfl) (fun _ _ _ h => h) (Or.inl ⟨by rfl, ?hy3⟩) (by assumption) ?rest3
  case hy3 => (intro w hSw; (try dsimp only at hSw); go_simp; try with_reducible rfl)
  try simp only [Act.put, List.setIfInBounds_toArray, List.set_cons_zero, List.set_cons_succ]
  refine takeH (i := 3) (v := ?vv4) rfl (by kernel_rfl) (by kernel_rfl) (by kernel_rfl) (fun _ _ _ h => h) (Or.inl ⟨by rfl, ?hy4⟩) (by assumption) ?rest4
  case hy4 => (intro w hSw; (try dsimp only at hSw); go_simp; try with_reducible rfl)
  try simp only [Act.put, List.setIfInBounds_toArray, List.set_cons_zero, List.set_cons_succ]
  refine takeH (i := 4) (v := ?vv5) rfl (by kernel_rfl) (by kernel_rfl) (by kernel_rfl) (fun _ _ _ h => h) (Or.inl ⟨by rfl, ?hy5⟩) (by assumption) ?rest5
  case hy5 => (intro w hSw; (try dsimp only at hSw); go_simp; try with_reducible rfl)
  try simp only [Act.put, List.setIfInBounds_toArray, List.set_cons_zero, List.set_cons_succ]
  refine takeH (i := 5) (v := ?vv6) rfl (by kernel_rfl) (by kernel_rfl) (by kernel_rfl) (fun _ _ _ h => h) (Or.inl ⟨by rfl, ?hy6⟩) (by assumption) ?rest6
  case hy6 => (intro w hSw; (try dsimp only at hSw); go_simp; try with_reducible rfl)
  try simp only [Act.put, List.setIfInBounds_toArray, List.set_cons_zero, List.set_cons_succ]
  refine takeH (i := 6) (v := ?vv7) rfl (by kernel_rfl) (by kernel_rfl) (by kernel_rfl) (fun _ _ _ h => h) (Or.inl ⟨by rfl, ?hy7⟩) (by assumption) ?rest7
  case hy7 => (intro w hSw; (try dsimp only at hSw); go_simp; try with_reducible rfl)
  try simp only [Act.put, List.setIfInBounds_toArray, List.set_cons_zero, List.set_cons_succ]
  refine takeH (i := 8) (v := ?vv8) rfl (by kernel_rfl) (by kernel_rfl) (by kernel_rfl) (fun _ _ _ h => h) (Or.inl ⟨by rfl, ?hy8⟩) (by assumption) ?rest8
  case hy8 => (intro w hSw; (try dsimp only at hSw); go_simp; try with_reducible rfl)
  try simp only [Act.put, List.setIfInBounds_toArray, List.set_cons_zero, List.set_cons_succ]
  refine takeH (i := 9) (v := ?vv9) rfl (by kernel_rfl) (by kernel_rfl) (by kernel_rfl) (fun _ _ _ h => h) (Or.inl ⟨by rfl, ?hy9⟩) (by assumption) ?rest9
  case hy9 => (intro w hSw; (try dsimp only at hSw); go_simp; try with_reducible rfl)
  try simp only [Act.put, List.setIfInBounds_toArray, List.set_cons_zero, List.set_cons_succ]
  refine takeH (i := 10) (v := ?vv10) rfl (by kernel_rfl) (by kernel_rfl) (by kernel_rfl) (fun _ _ _ h => h) (Or.inl ⟨by rfl, ?hy10⟩) (by assumption) ?rest10
  case hy10 => (intro w hSw; (try dsimp only at hSw); go_simp; try with_reducible rfl)
  try simp only [Act.put, List.setIfInBounds_toArray, List.set_cons_zero, List.set_cons_succ]
  refine takeH (i := 11) (v := ?vv11) rfl (by kernel_rfl) (by kernel_rfl) (by kernel_rfl) (fun _ _ _ h => h) (Or.inl ⟨by rfl, ?hy11⟩) (by assumption) ?rest11
  case hy11 => (intro w hSw; (try dsimp only at hSw); go_simp; try with_reducible rfl)
  try simp only [Act.put, List.setIfInBounds_toArray, List.set_cons_zero, List.set_cons_succ]
  refine doneH (i := 7) rfl (by kernel_rfl) (by rfl) (fun K hK => ?_)
  have HK : Hid _ := hK
  clear hK
  go_simp
  refine (hs1 _ hSd.one).mono ?_
  rintro e w8 ⟨rfl, hw8⟩
  subst hw8
  have hHd := hHeld
  clear hHeld
  refine HK.out _ _ hHd (fun hHeld => ?_)
  clear HK K hHd
  try simp only [Act.put, List.setIfInBounds_toArray, List.set_cons_zero, List.set_cons_succ]
  refine doneH (i := 12) rfl (by kernel_rfl) (by rfl) (fun K hK => ?_)
  have HK : Hid _ := hK
  clear hK
  go_simp
  refine (hs2 _ hSd.oth).mono ?_
  rintro e w8 ⟨rfl, hw8⟩
  subst hw8
  have hHd := hHeld
  clear hHeld
  refine HK.out _ _ hHd (fun hHeld => ?_)
  clear HK K hHd
  try simp only [Act.put, List.setIfInBounds_toArray, List.set_cons_zero, List.set_cons_succ]
  refine doneH (i := 13) rfl (by kernel_rfl) (by rfl) (fun K hK => ?_)
  have HK : Hid _ := hK
  clear hK
  go_simp
  refine (hag _ hSd.tr).mono ?_
  rintro e w7 ⟨rfl, hB7⟩
  have hB7' : Below w2.heap.size w2 w7 := hBd.trans hB7
  have k2' := (hB7'.cell (p := ⟨b, 2, none⟩) hlb2).trans k2
  have k3' := (hB7'.cell (p := ⟨b, 3, none⟩) hlb2).trans k3
  clear hB7
  have hHd := (⟨k2', k3'⟩ : w7.cell? ⟨b, 2, none⟩ = some (.slice p1 X.length c1) ∧ w7.cell? ⟨b, 3, none⟩ = some (.slice p2 Y.length c2))
  clear hHeld
  refine HK.out _ _ hHd (fun hHeld => ?_)
  clear HK K hHd
  try simp only [Act.put, List.setIfInBounds_toArray, List.set_cons_zero, List.set_cons_succ]
  refine takeH (i := 14) (v := ?vv12) rfl (by kernel_rfl) (by kernel_rfl) (by kernel_rfl) (fun _ _ _ h => h) (Or.inl ⟨by rfl, ?hy12⟩) (by assumption) ?rest12
  case hy12 => (intro w hSw; (try dsimp only at hSw); go_simp; try with_reducible rfl)
  try simp only [Act.put, List.setIfInBounds_toArray, List.set_cons_zero, List.set_cons_succ]
  clear hHeld
  refine wpAnyH_done (by kernel_rfl) ?_ _
  have hBw7 : Below w.heap.size w w7 := hBw2.trans (hB7'.mono hBw2.size)
  have hr7 := (hB7'.block w.heap.size (by have := hB1.size; have := hB2.size; omega)).trans hr2
  have hS7 := hS2.below hT hB7'
  clear k2 k3 k2' k3' hr2 hag hs1 hs2 hSd
  cases qa
  · have HE : Hid (suitE ws ps L M = 0) := by show _ = _; rw [HSE.out]; rfl
    have HG : Hid (suitG ws ps L M = judgeL ws.length ps L M) := by show _ = _; unfold suitG; rw [HE.out]; rfl
    clear HSE
    have hvv := HVD2.out w7 hS7
    go_wp2_with fail
    refine hvv.mono ?_
    rintro e w9 ⟨⟨v, rfl, hrow⟩, hB9⟩
    clear hvv
    have hBw9 : Below w.heap.size w w9 := hBw7.trans (hB9.mono hBw7.size)
    have hr9 := (hB9.block w.heap.size (by have := hB1.size; have := hB2.size; have := hB7'.size; omega)).trans hr7
    obtain ⟨pv, cv, hvs⟩ := row_slice hrow
    subst hvs
    obtain ⟨⟨z0, z1⟩, fz⟩ := HNB.out w9 0 hBw9 hr9
    have HR : Hid _ := hr9
    obtain ⟨kk, hkk⟩ : ∃ kk, wSum ws ((judgeL ws.length ps L M).map (fun g => g.v)) = kk := ⟨_, rfl⟩
    have HKK : Hid (guW ws (judgeL ws.length ps L M) = kk) := hkk
    rw [hkk]
    obtain ⟨G, hGG⟩ : ∃ G, judgeL ws.length ps L M = G := ⟨_, rfl⟩
    rw [hGG] at hrow ⊢
    have HGG : Hid (judgeL ws.length ps L M = G) := hGG
    clear hr9 hkk hGG
    go_wp2
    obtain ⟨y0, y1, hBf⟩ := HFIN.out w9 (.slice pv G.length cv) kk 0 hBw9 HR.out
    have hz7 := hBw7.size
    refine ⟨rfl, .tuple #[.agg #[.slice pv G.length cv, I64 kk], .int .i64 0], ?_, ⟨_, by rw [HE.out, HG.out, HKK.out], ?_⟩, hBf⟩
    · simp only [results, Tryz.f63]
      simp [go_sem, y0, y1]
    · rw [HG.out, HGG.out]
      have hlt : w.heap.size < w7.heap.size := by have := hB1.size; have := hB2.size; have := hB7'.size; omega
      exact row_lower (row_set (row_set hrow w.heap.size 0 _ hlt) w.heap.size 1 _ hlt) (by omega)
  · have HE : Hid (suitE ws ps L M = 10) := by show _ = _; rw [HSE.out]; rfl
    have HG : Hid (suitG ws ps L M = []) := by show _ = _; unfold suitG; rw [HE.out]; rfl
    clear HSE
    obtain ⟨⟨z0, z1⟩, fz⟩ := HNB.out w7 0 hBw7 hr7
    have HR : Hid _ := hr7
    clear hr7
    go_wp2
    obtain ⟨y0, y1, hBf⟩ := HFIN.out w7 (.slice none 0 0) 0 0 hBw7 HR.out
    refine ⟨rfl, .tuple #[.agg #[.slice none 0 0, I64 0], .int .i64 10], ?_, ⟨_, by rw [HE.out, HG.out]; rfl, by rw [HG.out]; exact World.ownsRow_nil _ _ _ _⟩, hBf⟩
    simp only [results, Tryz.f63]
    simp [go_sem, y0, y1]

set_option maxRecDepth 100000 in
set_option maxHeartbeats 4000000 in
theorem judge_at (gw cw : Nat) (pq p1 p2 : Option Addr) (cq c1 c2 : Nat) (ws ps : List Int) (X Y : List LkV) (w : World) (hww : ∀ j, j < ws.length → w.cell? ⟨gw, j, none⟩ = some (I64 (ws[j]?.getD 0))) (hwl : ws.length ≤ maxLen) (hpp : IntsAt w pq ps) (hpl : ps.length ≤ maxLen) (h1 : LkAt w p1 X) (h2 : LkAt w p2 Y) (hX : X.length ≤ maxLen) (hY : Y.length ≤ maxLen) :
    Calls Tryz.prog 25 #[.slice (some ⟨gw, 0, none⟩) ws.length cw, .slice pq ps.length cq, .slice p1 X.length c1, .slice p2 Y.length c2] w fun e w' => (∃ v, e = .returned (.tuple #[.agg #[v, .int .i64 (guW ws (judgeG ws ps (X.map (fun x => x.1)) (Y.map (fun x => x.1))))], .int .i64 (judgeE ws ps (X.map (fun x => x.1)) (Y.map (fun x => x.1)))]) ∧ w'.ownsRow w.heap.size 84 8 v (judgeG ws ps (X.map (fun x => x.1)) (Y.map (fun x => x.1))).length (guRow (judgeG ws ps (X.map (fun x => x.1)) (Y.map (fun x => x.1))))) ∧ Below w.heap.size w w' := by
  have hIw : IntsAt w (some ⟨gw, 0, none⟩) ws := .inr ⟨gw, 0, rfl, fun j hj => by rw [Nat.zero_add]; exact hww j hj⟩
  have HWW : Hid (∀ j, j < ws.length → w.cell? ⟨gw, j, none⟩ = some (I64 (ws[j]?.getD 0))) := hww
  clear hww
  obtain ⟨L, hL⟩ : ∃ L, X.map (fun x => x.1) = L := ⟨_, rfl⟩
  obtain ⟨M, hM⟩ : ∃ M, Y.map (fun x => x.1) = M := ⟨_, rfl⟩
  have hsj := fun b g0 cap0 W hS hT hW => sJudge_at b gw cw g0 cap0 p1 p2 c1 c2 ws ps X Y W hS hT hW hX hY
  rw [hL, hM] at hsj
  rw [hL, hM]
  have HSJ : Hid _ := hsj
  clear hsj hL hM
  have fin : ∀ (W : World) (v : Value) (k : Int), Below w.heap.size w W → W.heap[w.heap.size]? = some (.cells #[.slice none 0 0, I64 0] 74 (0, 0)) → ((W.setCell ⟨w.heap.size, 0, none⟩ v).setCell ⟨w.heap.size, 1, none⟩ (I64 k)).cell? ⟨w.heap.size, 0, none⟩ = some v ∧ ((W.setCell ⟨w.heap.size, 0, none⟩ v).setCell ⟨w.heap.size, 1, none⟩ (I64 k)).cell? ⟨w.heap.size, 1, none⟩ = some (I64 k) ∧ Below w.heap.size w ((W.setCell ⟨w.heap.size, 0, none⟩ v).setCell ⟨w.heap.size, 1, none⟩ (I64 k)) := fun W v k hB hr => by
    have h2w := two_heap hr v (I64 k)
    exact ⟨by rw [cell_of_heap h2w]; rfl, by rw [cell_of_heap h2w]; rfl, (hB.setCell (p := ⟨w.heap.size, 0, none⟩) (Nat.le_refl _) _).setCell (p := ⟨w.heap.size, 1, none⟩) (Nat.le_refl _) _⟩
  have HFIN : Hid _ := fin
  have cells : ∀ (W : World), W.heap[w.heap.size]? = some (.cells #[.slice none 0 0, I64 0] 74 (0, 0)) → (W.cell? ⟨w.heap.size, 0, none⟩ = some (.slice none 0 0) ∧ W.cell? ⟨w.heap.size, 1, none⟩ = some (I64 0)) ∧ ∀ o, W.frozen? ⟨w.heap.size, o, none⟩ = false := fun W hr => ⟨⟨by rw [cell_of_heap hr]; rfl, by rw [cell_of_heap hr]; rfl⟩, fun o => frozen_of_heap hr o⟩
  have HC : Hid _ := cells
  clear fin cells
  have hB0 : Below w.heap.size w (w.alloc (.cells #[.slice none 0 0, I64 0] 74)) := (Below.refl _ w).alloc (Nat.le_refl _) _
  have hrg := fun W hI => right_at (some ⟨gw, 0, none⟩) cw ws W hI hwl
  have htr := fun W hI => treeRight_at pq cq ps W hI hpl
  go_enter Tryz.func25, Tryz.ntmps25
  go_wp2_with fail
  obtain ⟨wa, hwa⟩ : ∃ wa, w.alloc (.cells #[.slice none 0 0, I64 0] 74) = wa := ⟨_, rfl⟩
  have hra : wa.heap[w.heap.size]? = some (.cells #[.slice none 0 0, I64 0] 74 (0, 0)) := by rw [← hwa]; exact heap_alloc_new w _
  have hza : wa.heap.size = w.heap.size + 1 := by rw [← hwa]; simp
  rw [hwa] at hB0 ⊢
  clear hwa
  refine (hrg wa (hIw.below' hB0)).mono ?_
  rintro e w1 ⟨rfl, hw1⟩
  subst hw1
  clear hrg
  cases hok : okW ws
  · have HE : Hid (judgeE ws ps L M = 1) := by show _ = _; unfold judgeE; rw [hok]; rfl
    have HG : Hid (judgeG ws ps L M = []) := by show _ = _; unfold judgeG; rw [HE.out]; rfl
    obtain ⟨⟨z0, z1⟩, fz⟩ := HC.out w1 hra
    have HR : Hid _ := hra
    clear hra hok
    go_wp2
    obtain ⟨y0, y1, hBf⟩ := HFIN.out w1 (.slice none 0 0) 0 hB0 HR.out
    refine ⟨rfl, .tuple #[.agg #[.slice none 0 0, I64 0], .int .i64 1], ?_, ⟨_, by rw [HE.out, HG.out]; rfl, by rw [HG.out]; exact World.ownsRow_nil _ _ _ _⟩, hBf⟩
    simp only [results, Tryz.f25]
    simp [go_sem, y0, y1]
  have hW := okWs_of hok
  go_wp2_with fail
  refine (htr w1 (hpp.below' hB0)).mono ?_
  rintro e w2 ⟨rfl, hw2⟩
  subst hw2
  clear htr
  cases htb : treeB ps
  · have HE : Hid (judgeE ws ps L M = 2) := by show _ = _; unfold judgeE; rw [hok, htb]; rfl
    have HG : Hid (judgeG ws ps L M = []) := by show _ = _; unfold judgeG; rw [HE.out]; rfl
    obtain ⟨⟨z0, z1⟩, fz⟩ := HC.out w2 hra
    have HR : Hid _ := hra
    clear hra hok htb
    go_wp2
    obtain ⟨y0, y1, hBf⟩ := HFIN.out w2 (.slice none 0 0) 0 hB0 HR.out
    refine ⟨rfl, .tuple #[.agg #[.slice none 0 0, I64 0], .int .i64 2], ?_, ⟨_, by rw [HE.out, HG.out]; rfl, by rw [HG.out]; exact World.ownsRow_nil _ _ _ _⟩, hBf⟩
    simp only [results, Tryz.f25]
    simp [go_sem, y0, y1]
  have hT := treeB_iff.1 htb
  have HE : Hid (judgeE ws ps L M = suitE ws ps L M) := by show _ = _; unfold judgeE; rw [hok, htb]; rfl
  have HG : Hid (judgeG ws ps L M = suitG ws ps L M) := by show _ = _; unfold judgeG suitG; rw [HE.out]
  clear hok htb
  have hp0 := hT.1
  rcases hpp with h9 | ⟨gq, oq, rfl, hcq⟩
  · rw [h9] at hp0; simp at hp0
  have hgr := grown_at gq oq cq ps w2 (fun j hj => (hB0.cell (p := ⟨gq, oq + j, none⟩) (World.block_lt_of_cell? w _ (hcq j hj))).trans (hcq j hj)) hT.1 hT.2.1
  clear hcq
  go_wp2_with fail
  refine hgr.mono ?_
  rintro e w3 ⟨⟨g1, cap, rfl, hown3⟩, hB3⟩
  clear hgr
  have hBw3 : Below w.heap.size w w3 := hB0.trans (hB3.mono (by omega))
  have hr3 := (hB3.block w.heap.size (by omega)).trans hra
  have hz3 := hB3.size
  clear hra
  go_wp2_with fail
  obtain ⟨w4, hw4⟩ : ∃ w4, w3.alloc (.cells #[.slice (some ⟨gw, 0, none⟩) ws.length cw, .slice (some ⟨g1, 0, none⟩) ps.length cap, .slice p1 X.length c1, .slice p2 Y.length c2] 125) = w4 := ⟨_, rfl⟩
  have hn4 : w4.heap[w3.heap.size]? = some (.cells #[.slice (some ⟨gw, 0, none⟩) ws.length cw, .slice (some ⟨g1, 0, none⟩) ps.length cap, .slice p1 X.length c1, .slice p2 Y.length c2] 125 (0, 0)) := by rw [← hw4]; exact heap_alloc_new w3 _
  have hB4 : Below w3.heap.size w3 w4 := by rw [← hw4]; exact (Below.refl _ w3).alloc (Nat.le_refl _) _
  have hown4 := row_below hown3 hB4 (Nat.le_refl _)
  rw [hw4]
  clear hw4
  have hBw4 : Below w.heap.size w w4 := hBw3.trans (hB4.mono hBw3.size)
  obtain ⟨g1', cap', he1, _, _, hc4, _⟩ := row_open (row_low hown4) hT.1
  simp only [Value.slice.injEq, Option.some.injEq, Addr.mk.injEq, true_and, and_true] at he1
  obtain ⟨rfl, rfl⟩ := he1
  have hS : SuitAt w4 w3.heap.size gw cw g1 cap p1 p2 c1 c2 ws ps X Y := ⟨by rw [cell_of_heap hn4]; rfl, fun j hj => (hBw4.cell (p := ⟨gw, j, none⟩) (World.block_lt_of_cell? w _ (HWW.out j hj))).trans (HWW.out j hj), ⟨by rw [cell_of_heap hn4]; rfl, hc4⟩, by rw [cell_of_heap hn4]; rfl, by rw [cell_of_heap hn4]; rfl, h1.below hBw4, h2.below hBw4⟩
  have hsj := HSJ.out w3.heap.size g1 cap w4 hS hT hW
  refine hsj.mono ?_
  rintro e w5 ⟨⟨v, rfl, hrow⟩, hB5⟩
  clear hsj
  have hz4 := hB4.size
  have hBw5 : Below w.heap.size w w5 := hBw4.trans (hB5.mono hBw4.size)
  have hr5 := (hB5.block w.heap.size (by omega)).trans ((hB4.block w.heap.size (by omega)).trans hr3)
  obtain ⟨pv, cv, hvs⟩ := row_slice hrow
  subst hvs
  obtain ⟨⟨z0, z1⟩, fz⟩ := HC.out w5 hr5
  have HR : Hid _ := hr5
  obtain ⟨G, hGG⟩ : ∃ G, suitG ws ps L M = G := ⟨_, rfl⟩
  obtain ⟨E, hEE⟩ : ∃ E, suitE ws ps L M = E := ⟨_, rfl⟩
  rw [hGG] at HG hrow ⊢
  rw [hEE] at HE ⊢
  obtain ⟨kk, hkk⟩ : ∃ kk, guW ws G = kk := ⟨_, rfl⟩
  rw [hkk]
  have HKK : Hid (guW ws G = kk) := hkk
  clear hGG hEE hkk hr5 hr3 hn4 hc4
  go_wp2
  obtain ⟨y0, y1, hBf⟩ := HFIN.out w5 (.slice pv G.length cv) kk hBw5 HR.out
  refine ⟨rfl, .tuple #[.agg #[.slice pv G.length cv, I64 kk], .int .i64 E], ?_, ⟨_, by rw [HE.out, HG.out, HKK.out], ?_⟩, hBf⟩
  · simp only [results, Tryz.f25]
    simp [go_sem, y0, y1]
  · rw [HG.out]
    have hlt : w.heap.size < w4.heap.size := by omega
    exact row_lower (row_set (row_set hrow w.heap.size 0 _ hlt) w.heap.size 1 _ hlt) (by omega)
end Go.Proofs.YtgebcnnenhgkcaaGreat
