/- verdict, judge, Judge: what is answered, in new memory. -/
import Derived.Test.YtgebcnnenhgkcaaJudgeC
namespace Go.Proofs.Ytgebcnnenhgkcaa
open Go.RowKit Go.Shelf

/-- Two stores into a block. -/
theorem two_heap {W : World} {n : Nat} {c0 c1 : Value} {t : TypeId} (h : W.heap[n]? = some (.cells #[c0, c1] t (0, 0))) (a b : Value) : ((W.setCell ⟨n, 0, none⟩ a).setCell ⟨n, 1, none⟩ b).heap[n]? = some (.cells #[a, b] t (0, 0)) := by
  have h0 : (W.setCell ⟨n, 0, none⟩ a).heap[n]? = some (.cells #[a, c1] t (0, 0)) := heap_setCell_same _ n 0 _ _ _ h
  exact heap_setCell_same _ n 1 _ _ _ h0

set_option maxRecDepth 100000 in
set_option maxHeartbeats 4000000 in
theorem verdict_at (b gw cw g0 cap0 : Nat) (p1 p2 : Option Addr) (c1 c2 : Nat) (ws ps : List Int) (X Y : List LkV) (w : World) (h : SuitAt w b gw cw g0 cap0 p1 p2 c1 c2 ws ps X Y) (hT : Tree ps) (hW : OkWs ws) (hX : X.length ≤ 40) (hY : Y.length ≤ 40)
    (hbX : ∀ x ∈ X, ∀ u, OkB ps ⟨u, x.1.s, x.1.t⟩) (hbY : ∀ x ∈ Y, ∀ u, OkB ps ⟨u, x.1.s, x.1.t⟩) :
    Calls Try.prog 71 #[.pointer (some ⟨b, 0, none⟩)] w fun e w' => (∃ v, e = .returned (.agg #[v, .int .i64 (wSum ws ((judgeL ws.length ps (X.map (fun x => x.1)) (Y.map (fun x => x.1))).map (fun g => g.v)))]) ∧ w'.ownsRow w.heap.size 73 8 v (judgeL ws.length ps (X.map (fun x => x.1)) (Y.map (fun x => x.1))).length (guRow (judgeL ws.length ps (X.map (fun x => x.1)) (Y.map (fun x => x.1))))) ∧ Below w.heap.size w w' := by
  obtain ⟨i0, hi, hz0, hz1, hz2⟩ := info_parts info_guilt
  have hw12 := hW.le
  have HBX : Hid _ := hbX
  have HBY : Hid _ := hbY
  clear hbX hbY
  have hB0 : Below w.heap.size w ((w.alloc (.cells #[.slice none 0 0, I64 0] 28)).alloc (.cells #[.slice none 0 0, I64 0] 28)) := ((Below.refl _ w).alloc (Nat.le_refl _) _).alloc (by simp) _
  have h0 := (h.below hT hB0).h0
  go_enter Try.func71, Try.ntmps71
  go_wp2_with fail
  obtain ⟨W0, hW0⟩ : ∃ W0, (w.alloc (.cells #[.slice none 0 0, I64 0] 28)).alloc (.cells #[.slice none 0 0, I64 0] 28) = W0 := ⟨_, rfl⟩
  have hz0' : W0.heap.size = w.heap.size + 1 + 1 := by rw [← hW0]; simp
  have hr0 : W0.heap[w.heap.size]? = some (.cells #[.slice none 0 0, I64 0] 28 (0, 0)) := by rw [← hW0, Below.heap_alloc _ _ _ (by simp)]; exact heap_alloc_new w _
  have hv0 : W0.heap[w.heap.size + 1]? = some (.cells #[.slice none 0 0, I64 0] 28 (0, 0)) := by rw [← hW0]; have := heap_alloc_new (w.alloc (.cells #[.slice none 0 0, I64 0] 28)) (.cells #[.slice none 0 0, I64 0] 28); simpa using this
  rw [hW0] at hB0 ⊢
  clear hW0 h0
  go_loopw [13] (fun ii wr => ∃ (k : Nat) (v : Value) (m : Int), k ≤ ws.length ∧ ii = .int .i64 k ∧ Below w.heap.size w wr ∧ wr.heap[w.heap.size]? = some (.cells #[.slice none 0 0, I64 0] 28 (0, 0)) ∧ wr.heap[w.heap.size + 1]? = some (.cells #[v, I64 m] 28 (0, 0)) ∧ wr.ownsRow (w.heap.size + 1 + 1) 73 8 v (judgeL k ps (X.map (fun x => x.1)) (Y.map (fun x => x.1))).length (guRow (judgeL k ps (X.map (fun x => x.1)) (Y.map (fun x => x.1)))) ∧ 0 ≤ m ∧ m ≤ 100 * k ∧ Hid (wSum ws ((judgeL k ps (X.map (fun x => x.1)) (Y.map (fun x => x.1))).map (fun g => g.v)) = m)) (fun ii _ => ws.length - (intOf ii).toNat)
  case atStart => exact ⟨0, .slice none 0 0, 0, by omega, rfl, hB0, hr0, hv0, World.ownsRow_nil _ _ _ _, by omega, by omega, rfl⟩
  case round =>
    clear hB0 hr0 hv0
    obtain ⟨k, v, m, hk, rfl, hB, hr, hv, hown, hm0, hm1, HM⟩ := hrel
    have hz := hB.size
    have hlv := (Array.getElem?_eq_some_iff.1 hv).1
    by_cases hlt : k < ws.length
    · have hlt' : (k : Int) < (ws.length : Int) := by omega
      have hS := h.below hT hB
      have hcw := hS.ww k hlt
      obtain ⟨y, hy⟩ : ∃ y, ws[k]?.getD 0 = y := ⟨_, rfl⟩
      rw [hy] at hcw
      have hyb := hW.wAt (v := (k : Int)) (by simpa using hlt)
      unfold wAt at hyb
      simp only [Int.toNat_natCast, hy] at hyb
      have HS : Hid _ := judgeL_succ k ps (X.map (fun x => x.1)) (Y.map (fun x => x.1))
      have HY : Hid (wAt ws (k : Int) = y) := by show _ = _; unfold wAt; simp [hy]
      obtain ⟨G, hG⟩ : ∃ G, judgeL k ps (X.map (fun x => x.1)) (Y.map (fun x => x.1)) = G := ⟨_, rfl⟩
      have hgl : G.length ≤ 12 := by rw [← hG]; exact Nat.le_trans (judgeL_length _ _ _ _) (by omega)
      rw [hG] at hown HM
      have HG : Hid (judgeL k ps (X.map (fun x => x.1)) (Y.map (fun x => x.1)) = G) := hG
      clear hG hy
      have hgo := sGuiltOf_at b gw cw g0 cap0 p1 p2 c1 c2 ws ps X Y k wr hS hT hX hY (fun x hx => HBX.out x hx _) (fun x hx => HBY.out x hx _)
      cases hgv : judgeV ps (X.map (fun x => x.1)) (Y.map (fun x => x.1)) k with
      | none =>
        have HS' : Hid (judgeL (k + 1) ps (X.map (fun x => x.1)) (Y.map (fun x => x.1)) = G) := by show _ = _; rw [HS.out, HG.out, hgv]; simp
        rw [hgv] at hgo
        clear HS hgv
        go_wp2_with fail
        refine hgo.mono ?_
        rintro e w3 ⟨rfl, hB3⟩
        clear hgo
        have hB4 : Below w.heap.size w w3 := hB.trans (hB3.mono hz)
        have hv3 := (hB3.block _ hlv).trans hv
        have hr3 := (hB3.block (w.heap.size) (by omega)).trans hr
        have hown3 := row_below hown hB3 (Nat.le_refl _)
        have hz3 := hB3.size
        go_wp2
        go_roundw
        case rel => exact ⟨k + 1, v, m, by omega, by go_num, hB4.alloc hB4.size _, (Below.heap_alloc _ _ _ (by omega)).trans hr3, (Below.heap_alloc _ _ _ (by omega)).trans hv3, by rw [HS'.out]; exact hown3.alloc _, hm0, by omega, by rw [HS'.out]; exact HM⟩
        case measure => simp [intOf]; omega
      | some gu =>
        have hgu := (judgeV_some hgv).1
        have HS' : Hid (judgeL (k + 1) ps (X.map (fun x => x.1)) (Y.map (fun x => x.1)) = G ++ [gu]) := by show _ = _; rw [HS.out, HG.out, hgv]; rfl
        have HM' : Hid (wSum ws ((G ++ [gu]).map (fun g => g.v)) = m + y) := by
          show _ = _
          rw [List.map_append]
          unfold wSum at HM ⊢
          rw [List.map_append, sumI_append, HM.out]
          simp only [List.map_cons, List.map_nil, sumI_cons, sumI_nil]
          rw [hgu, HY.out]; omega
        rw [hgv] at hgo
        clear HS hgv hgu
        have h63 : Hid (G.length + 1 ≤ maxLen) := by show _ ≤ _; unfold maxLen; omega
        obtain ⟨pG, cG, hvs⟩ := row_slice hown
        subst hvs
        go_wp2_with fail
        refine hgo.mono ?_
        rintro e w3 ⟨rfl, hB3⟩
        clear hgo
        have hB4 : Below w.heap.size w w3 := hB.trans (hB3.mono hz)
        have hv3 := (hB3.block _ hlv).trans hv
        have hr3 := (hB3.block (w.heap.size) (by omega)).trans hr
        have hown3 := row_below hown hB3 (Nat.le_refl _)
        have hz3 := hB3.size
        have c0 : w3.cell? ⟨w.heap.size + 1, 0, none⟩ = some (.slice pG G.length cG) := by rw [cell_of_heap hv3]; rfl
        have c1' : w3.cell? ⟨w.heap.size + 1, 1, none⟩ = some (I64 m) := by rw [cell_of_heap hv3]; rfl
        have cz : ∀ o, w3.frozen? ⟨w.heap.size + 1, o, none⟩ = false := fun o => frozen_of_heap hv3 o
        have hl3 : w.heap.size + 1 < w3.heap.size := by omega
        have HV3 : Hid _ := hv3
        have HR3 : Hid _ := hr3
        clear hv3 hr3 hv hr
        go_wp2_with (at_builtin; refine wpList_append_own _ (by rfl) _ _ _ (by rfl) (w.heap.size + 1 + 1) 73 i0 (.agg #[I64 0, I64 0, I64 0, I64 0, I64 0, I64 0, I64 0, I64 0]) 8 64 Try.underlying26 hi hz0 hz1 hz2 rfl (by omega) _ G.length (guRow G) (by rfl) ((hown3.alloc _).alloc _) ⟨w3.heap.size + 1, 0, none⟩ 1 1 (guCells gu) (by rfl) (by rfl) (cells_two _ _ #[I64 gu.v, I64 gu.k, I64 gu.a.v, I64 gu.a.s, I64 gu.a.t, I64 gu.b.v, I64 gu.b.s, I64 gu.b.t] _) (by simp [guCells, Value.oneCell']) h63.out (by omega) (by simp; omega) ?_; intro v1 w1 hown1 hgrow1 hnil1; have hblk : ∀ q, q < w.heap.size + 1 + 1 → w1.heap[q]? = w3.heap[q]? := (fun q hq => (hgrow1.block q (by simp; omega) (fun e => by have := (hown3.lt q e.symm).1; omega)).trans ((Below.heap_alloc _ _ _ (by simp; omega)).trans (Below.heap_alloc _ _ _ (by omega)))); have d0 : w1.cell? ⟨w.heap.size + 1, 0, none⟩ = some (.slice pG G.length cG) := (World.cell?_of_block (hblk (w.heap.size + 1) (by omega))).trans c0; have d1 : w1.cell? ⟨w.heap.size + 1, 1, none⟩ = some (I64 m) := (World.cell?_of_block (hblk (w.heap.size + 1) (by omega))).trans c1'; have dz : ∀ o, w1.frozen? ⟨w.heap.size + 1, o, none⟩ = false := (fun o => (World.frozen?_of_block (hblk (w.heap.size + 1) (by omega))).trans (cz o)); have HBL : Hid (∀ q, q < w.heap.size + 1 + 1 → w1.heap[q]? = w3.heap[q]?) := hblk; clear hblk; obtain ⟨pN, cN, hvN⟩ := row_slice hown1; subst hvN)
        have hv1 : w1.heap[w.heap.size + 1]? = some (.cells #[.slice pG G.length cG, I64 m] 28 (0, 0)) := (HBL.out (w.heap.size + 1) (by omega)).trans HV3.out
        have hr1 : w1.heap[w.heap.size]? = some (.cells #[.slice none 0 0, I64 0] 28 (0, 0)) := (HBL.out w.heap.size (by omega)).trans HR3.out
        have hB1 : Below w.heap.size w w1 := ((hB4.alloc (by omega) _).alloc (by simp; omega) _).grown hgrow1 (by simp; omega) (fun j e => by have := (hown3.lt j e).1; omega)
        have h2w := two_heap hv1 (.slice pN (G.length + 1) cN) (I64 (m + y))
        have hrow2 := row_setCell (b := w.heap.size + 1) (row_setCell (b := w.heap.size + 1) (row_low hown1) 0 (.slice pN (G.length + 1) cN) (fun e => by have := (hown1.lt _ e).1; omega)) 1 (I64 (m + y)) (fun e => by have := (hown1.lt _ e).1; omega)
        go_roundw
        case rel =>
          refine ⟨k + 1, .slice pN (G.length + 1) cN, m + y, by omega, by go_num, (hB1.setCell (p := ⟨w.heap.size + 1, 0, none⟩) (by dsimp only; omega) _).setCell (p := ⟨w.heap.size + 1, 1, none⟩) (by dsimp only; omega) _, ?_, h2w, ?_, by omega, by omega, by rw [HS'.out]; exact HM'⟩
          · rw [Below.heap_setCell _ _ _ _ (by dsimp only; omega), Below.heap_setCell _ _ _ _ (by dsimp only; omega)]; exact hr1
          · rw [HS'.out, guRow_append, List.length_append]
            refine ⟨by simpa [guRow] using hrow2.1, ?_⟩
            rcases hrow2.2 with h9 | ⟨g, cap, cur, h9, _, h10⟩
            · exact .inl h9
            · exact .inr ⟨g, cap, cur, h9, (hown1.lt g (by rw [h9]; rfl)).1, by simpa [guRow] using h10⟩
        case measure => simp [intOf]; omega
    · have hkk : k = ws.length := by omega
      obtain ⟨pG, cG, hvs⟩ := row_slice hown
      subst hvs
      obtain ⟨G, hG⟩ : ∃ G, judgeL k ps (X.map (fun x => x.1)) (Y.map (fun x => x.1)) = G := ⟨_, rfl⟩
      have hGn : judgeL ws.length ps (X.map (fun x => x.1)) (Y.map (fun x => x.1)) = G := by rw [← hkk]; exact hG
      rw [hG] at hv hown HM
      have HGN : Hid (judgeL ws.length ps (X.map (fun x => x.1)) (Y.map (fun x => x.1)) = G) := hGn
      have c0 : wr.cell? ⟨w.heap.size + 1, 0, none⟩ = some (.slice pG G.length cG) := by rw [cell_of_heap hv]; rfl
      have c1' : wr.cell? ⟨w.heap.size + 1, 1, none⟩ = some (I64 m) := by rw [cell_of_heap hv]; rfl
      have z0 : wr.cell? ⟨w.heap.size, 0, none⟩ = some (.slice none 0 0) := by rw [cell_of_heap hr]; rfl
      have z1 : wr.cell? ⟨w.heap.size, 1, none⟩ = some (I64 0) := by rw [cell_of_heap hr]; rfl
      have fz : ∀ o, wr.frozen? ⟨w.heap.size, o, none⟩ = false := fun o => frozen_of_heap hr o
      have HR : Hid _ := hr
      clear hr hG hGn hkk hv
      go_wp2
      have h2w := two_heap HR.out (.slice pG G.length cG) (I64 m)
      have y0 : ((wr.setCell ⟨w.heap.size, 0, none⟩ (.slice pG G.length cG)).setCell ⟨w.heap.size, 1, none⟩ (I64 m)).cell? ⟨w.heap.size, 0, none⟩ = some (.slice pG G.length cG) := by rw [cell_of_heap h2w]; rfl
      have y1 : ((wr.setCell ⟨w.heap.size, 0, none⟩ (.slice pG G.length cG)).setCell ⟨w.heap.size, 1, none⟩ (I64 m)).cell? ⟨w.heap.size, 1, none⟩ = some (I64 m) := by rw [cell_of_heap h2w]; rfl
      refine ⟨rfl, .agg #[.slice pG G.length cG, I64 m], ?_, ⟨_, by rw [HGN.out, HM.out], ?_⟩, (hB.setCell (p := ⟨w.heap.size, 0, none⟩) (Nat.le_refl _) _).setCell (p := ⟨w.heap.size, 1, none⟩) (Nat.le_refl _) _⟩
      · simp only [results, Try.f71]
        simp [go_sem, y0, y1]
      · rw [HGN.out]
        exact row_lower (row_set (row_set hown w.heap.size 0 _ (by omega)) w.heap.size 1 _ (by omega)) (by omega)
end Go.Proofs.Ytgebcnnenhgkcaa
