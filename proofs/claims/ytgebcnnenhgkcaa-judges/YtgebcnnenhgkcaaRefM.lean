/- The document's own answer: Judge. -/
import Derived.Test.YtgebcnnenhgkcaaRefL
import Derived.Test.YtgebcnnenhgkcaaWeights
namespace Go.Proofs.Ytgebcnnenhgkcaa
open Go.RowKit Go.Shelf

theorem judgeV_pos {ps : List Int} {one other : List Lk} {v : Int} {g : Gu} (h : judgeV ps one other v = some g) : 0 < g.k := by
  unfold judgeV at h
  cases hp : firstF (kindI ps) (ofL one v) (ofL other v) with
  | none => rw [hp] at h; cases h
  | some p =>
    rw [hp] at h
    obtain ⟨k, x, y⟩ := p
    simp only [Option.map_some, Option.some.injEq] at h
    obtain ⟨_, _, h3, h4⟩ := firstF_some hp
    have := kindI_nn ps x y
    rw [← h]
    show 0 < k
    omega

set_option maxRecDepth 100000 in
set_option maxHeartbeats 8000000 in
theorem rJudge_at (pw pq p1 p2 : Option Addr) (cw cq c1 c2 : Nat) (ws ps : List Int) (X Y : List LkV) (w : World) (hww : IntsAt w pw ws) (hwl : ws.length ≤ maxLen) (hpp : IntsAt w pq ps) (hpl : ps.length ≤ maxLen) (h1 : LkAt w p1 X) (h2 : LkAt w p2 Y) (hX : X.length ≤ maxLen) (hY : Y.length ≤ maxLen) :
    Calls Try.prog 27 #[.slice pw ws.length cw, .slice pq ps.length cq, .slice p1 X.length c1, .slice p2 Y.length c2] w fun e w' => (∃ v, e = .returned (.tuple #[.agg #[v, .int .i64 (guW ws (judgeG ws ps (X.map (fun x => x.1)) (Y.map (fun x => x.1))))], .int .i64 (judgeE ws ps (X.map (fun x => x.1)) (Y.map (fun x => x.1)))]) ∧ w'.ownsRow w.heap.size 73 8 v (judgeG ws ps (X.map (fun x => x.1)) (Y.map (fun x => x.1))).length (guRow (judgeG ws ps (X.map (fun x => x.1)) (Y.map (fun x => x.1))))) ∧ Below w.heap.size w w' := by
  obtain ⟨L, hL⟩ : ∃ L, X.map (fun x => x.1) = L := ⟨_, rfl⟩
  obtain ⟨M, hM⟩ : ∃ M, Y.map (fun x => x.1) = M := ⟨_, rfl⟩
  obtain ⟨i0, hi, hz0, hz1, hz2⟩ := info_parts info_guilt
  have HXL : Hid (X.map (fun x => x.1) = L) := hL
  have HYM : Hid (Y.map (fun x => x.1) = M) := hM
  rw [hL, hM]
  clear hL hM
  have fin : ∀ (W : World) (v : Value) (k : Int), Below w.heap.size w W → W.heap[w.heap.size]? = some (.cells #[.slice none 0 0, I64 0] 28 (0, 0)) → ((W.setCell ⟨w.heap.size, 0, none⟩ v).setCell ⟨w.heap.size, 1, none⟩ (I64 k)).cell? ⟨w.heap.size, 0, none⟩ = some v ∧ ((W.setCell ⟨w.heap.size, 0, none⟩ v).setCell ⟨w.heap.size, 1, none⟩ (I64 k)).cell? ⟨w.heap.size, 1, none⟩ = some (I64 k) ∧ Below w.heap.size w ((W.setCell ⟨w.heap.size, 0, none⟩ v).setCell ⟨w.heap.size, 1, none⟩ (I64 k)) := fun W v k hB hr => by
    have h2w := two_heap hr v (I64 k)
    exact ⟨by rw [cell_of_heap h2w]; rfl, by rw [cell_of_heap h2w]; rfl, (hB.setCell (p := ⟨w.heap.size, 0, none⟩) (Nat.le_refl _) _).setCell (p := ⟨w.heap.size, 1, none⟩) (Nat.le_refl _) _⟩
  have HFIN : Hid _ := fin
  have cells : ∀ (W : World), W.heap[w.heap.size]? = some (.cells #[.slice none 0 0, I64 0] 28 (0, 0)) → (W.cell? ⟨w.heap.size, 0, none⟩ = some (.slice none 0 0) ∧ W.cell? ⟨w.heap.size, 1, none⟩ = some (I64 0)) ∧ ∀ o, W.frozen? ⟨w.heap.size, o, none⟩ = false := fun W hr => ⟨⟨by rw [cell_of_heap hr]; rfl, by rw [cell_of_heap hr]; rfl⟩, fun o => frozen_of_heap hr o⟩
  have HC : Hid _ := cells
  clear fin cells
  have hB0 : Below w.heap.size w (w.alloc (.cells #[.slice none 0 0, I64 0] 28)) := (Below.refl _ w).alloc (Nat.le_refl _) _
  have hrg := fun W hI => refWeights_at pw cw ws W hI hwl
  have htr := fun W hI => rTree_at pq cq ps W hI hpl
  go_enter Try.func27, Try.ntmps27
  go_wp2_with fail
  obtain ⟨wa, hwa⟩ : ∃ wa, w.alloc (.cells #[.slice none 0 0, I64 0] 28) = wa := ⟨_, rfl⟩
  have hra : wa.heap[w.heap.size]? = some (.cells #[.slice none 0 0, I64 0] 28 (0, 0)) := by rw [← hwa]; exact heap_alloc_new w _
  have hza : wa.heap.size = w.heap.size + 1 := by rw [← hwa]; simp
  rw [hwa] at hB0 ⊢
  clear hwa
  refine (hrg wa (hww.below' hB0)).mono ?_
  rintro e w1 ⟨rfl, hw1⟩
  subst hw1
  clear hrg
  cases hok : okW ws
  · have HE : Hid (judgeE ws ps L M = 1) := by show _ = _; unfold judgeE; rw [hok]; rfl
    have HG : Hid (judgeG ws ps L M = []) := by show _ = _; unfold judgeG; rw [HE.out]; rfl
    clear hok
    obtain ⟨⟨z0, z1⟩, fz⟩ := HC.out w1 hra
    have HR : Hid _ := hra
    clear hra
    go_wp2
    obtain ⟨y0, y1, hBf⟩ := HFIN.out w1 (.slice none 0 0) 0 hB0 HR.out
    refine ⟨rfl, .tuple #[.agg #[.slice none 0 0, I64 0], .int .i64 1], ?_, ⟨_, by rw [HE.out, HG.out]; rfl, by rw [HG.out]; exact World.ownsRow_nil _ _ _ _⟩, hBf⟩
    simp only [results, Try.f27]
    simp [go_sem, y0, y1]
  have hW := okWs_of hok
  go_wp2_with fail
  refine (htr w1 (hpp.below' hB0)).mono ?_
  rintro e w2 ⟨rfl, hw2⟩
  subst hw2
  clear htr
  cases htb : treeB ps
  · have HE : Hid (judgeE ws ps L M = 2) := by show _ = _; unfold judgeE; rw [hok, htb]; rfl
    have HG : Hid (judgeG ws ps L M = []) := by show _ = _; unfold judgeG; rw [HE.out]; rfl
    clear hok htb
    obtain ⟨⟨z0, z1⟩, fz⟩ := HC.out w2 hra
    have HR : Hid _ := hra
    clear hra
    go_wp2
    obtain ⟨y0, y1, hBf⟩ := HFIN.out w2 (.slice none 0 0) 0 hB0 HR.out
    refine ⟨rfl, .tuple #[.agg #[.slice none 0 0, I64 0], .int .i64 2], ?_, ⟨_, by rw [HE.out, HG.out]; rfl, by rw [HG.out]; exact World.ownsRow_nil _ _ _ _⟩, hBf⟩
    simp only [results, Try.f27]
    simp [go_sem, y0, y1]
  have hT := treeB_iff.1 htb
  have HE : Hid (judgeE ws ps L M = suitE ws ps L M) := by show _ = _; unfold judgeE; rw [hok, htb]; rfl
  have HG : Hid (judgeG ws ps L M = suitG ws ps L M) := by show _ = _; unfold judgeG suitG; rw [HE.out]
  clear hok htb
  have hp0 := hT.1
  have hw0 := hW.pos
  have hw12 := hW.le
  rcases hpp with h9 | ⟨gq, oq, rfl, hcq⟩
  · rw [h9] at hp0; simp at hp0
  rcases hww with h9 | ⟨gw, ow, rfl, hcw⟩
  · rw [h9] at hw0; simp at hw0
  have HCQ : Hid (∀ j, j < ps.length → w.cell? ⟨gq, oq + j, none⟩ = some (I64 (ps[j]?.getD 0))) := hcq
  have HCW : Hid (∀ j, j < ws.length → w.cell? ⟨gw, ow + j, none⟩ = some (I64 (ws[j]?.getD 0))) := hcw
  clear hcq hcw
  have mkR : ∀ W : World, Below w.heap.size w W → W.heap[w.heap.size + 1]? = some (.cells #[.slice (some ⟨gw, ow, none⟩) ws.length cw, .slice (some ⟨gq, oq, none⟩) ps.length cq, .slice none 0 0] 98 (0, 0)) → RIn W (w.heap.size + 1) gw ow cw gq oq cq ws ps := fun W hB hc =>
    ⟨by rw [cell_of_heap hc]; rfl, fun j hj => (hB.cell (p := ⟨gw, ow + j, none⟩) (World.block_lt_of_cell? w _ (HCW.out j hj))).trans (HCW.out j hj), ⟨by rw [cell_of_heap hc]; rfl, fun j hj => (hB.cell (p := ⟨gq, oq + j, none⟩) (World.block_lt_of_cell? w _ (HCQ.out j hj))).trans (HCQ.out j hj)⟩⟩
  have MKR : Hid _ := mkR
  clear mkR
  have hr1 := fun W hR hL => rRight_at (w.heap.size + 1) gw ow cw gq oq cq ws ps X p1 c1 W hR hT hW hL hX
  have hr2 := fun W hR hL => rRight_at (w.heap.size + 1) gw ow cw gq oq cq ws ps Y p2 c2 W hR hT hW hL hY
  rw [HXL.out] at hr1
  rw [HYM.out] at hr2
  have HR2 : Hid _ := hr2
  have HR1 : Hid _ := hr1
  clear hr1 hr2
  go_wp2_with fail
  obtain ⟨w3, hw3⟩ : ∃ w3, w2.alloc (.cells #[.slice (some ⟨gw, ow, none⟩) ws.length cw, .slice (some ⟨gq, oq, none⟩) ps.length cq, .slice none 0 0] 98) = w3 := ⟨_, rfl⟩
  have hc3 : w3.heap[w.heap.size + 1]? = some (.cells #[.slice (some ⟨gw, ow, none⟩) ws.length cw, .slice (some ⟨gq, oq, none⟩) ps.length cq, .slice none 0 0] 98 (0, 0)) := by rw [← hw3, ← hza]; exact heap_alloc_new w2 _
  have hB3 : Below w.heap.size w w3 := by rw [← hw3]; exact hB0.alloc (by omega) _
  have hr3 : w3.heap[w.heap.size]? = some (.cells #[.slice none 0 0, I64 0] 28 (0, 0)) := by rw [← hw3, Below.heap_alloc _ _ _ (by omega)]; exact hra
  have hz3 : w3.heap.size = w.heap.size + 1 + 1 := by rw [← hw3]; simp; omega
  rw [hw3]
  try rw [hza]
  clear hw3 hra hB0
  refine (HR1.out w3 (MKR.out w3 hB3 hc3) (h1.below hB3)).mono ?_
  rintro e w4 ⟨rfl, hB4⟩
  have hBw4 : Below w.heap.size w w4 := hB3.trans (hB4.mono (by omega))
  have hc4 := (hB4.block (w.heap.size + 1) (by omega)).trans hc3
  have hr4 := (hB4.block w.heap.size (by omega)).trans hr3
  have hz4 := hB4.size
  clear hc3 hr3
  go_wp2_with fail
  refine (HR2.out w4 (MKR.out w4 hBw4 hc4) (h2.below hBw4)).mono ?_
  rintro e w5 ⟨rfl, hB5⟩
  have hBw5 : Below w.heap.size w w5 := hBw4.trans (hB5.mono (by omega))
  have hc5 := (hB5.block (w.heap.size + 1) (by omega)).trans hc4
  have hr5 := (hB5.block w.heap.size (by omega)).trans hr4
  have hz5 := hB5.size
  clear hc4 hr4 HR1 HR2
  cases hq1 : rightB ws ps L
  · cases rightB ws ps M
    all_goals
      have HE : Hid (judgeE ws ps L M = 9) := by show _ = _; rw [HE.out]; unfold suitE; rw [hq1]; rfl
      have HG : Hid (judgeG ws ps L M = []) := by show _ = _; unfold judgeG; rw [HE.out]; rfl
      clear hq1
      obtain ⟨⟨z0, z1⟩, fz⟩ := HC.out w5 hr5
      have HR : Hid _ := hr5
      clear hr5
      go_wp2
      obtain ⟨y0, y1, hBf⟩ := HFIN.out w5 (.slice none 0 0) 0 hBw5 HR.out
      refine ⟨rfl, .tuple #[.agg #[.slice none 0 0, I64 0], .int .i64 9], ?_, ⟨_, by rw [HE.out, HG.out]; rfl, by rw [HG.out]; exact World.ownsRow_nil _ _ _ _⟩, hBf⟩
      simp only [results, Try.f27]
      simp [go_sem, y0, y1]
  cases hq2 : rightB ws ps M
  · have HE : Hid (judgeE ws ps L M = 9) := by show _ = _; rw [HE.out]; unfold suitE; rw [hq1, hq2]; rfl
    have HG : Hid (judgeG ws ps L M = []) := by show _ = _; unfold judgeG; rw [HE.out]; rfl
    clear hq1 hq2
    obtain ⟨⟨z0, z1⟩, fz⟩ := HC.out w5 hr5
    have HR : Hid _ := hr5
    clear hr5
    go_wp2
    obtain ⟨y0, y1, hBf⟩ := HFIN.out w5 (.slice none 0 0) 0 hBw5 HR.out
    refine ⟨rfl, .tuple #[.agg #[.slice none 0 0, I64 0], .int .i64 9], ?_, ⟨_, by rw [HE.out, HG.out]; rfl, by rw [HG.out]; exact World.ownsRow_nil _ _ _ _⟩, hBf⟩
    simp only [results, Try.f27]
    simp [go_sem, y0, y1]
  obtain ⟨l0, l1, l2, l3⟩ := rt_last hT hq1
  obtain ⟨m0, m1, m2, m3⟩ := rt_last hT hq2
  have hSE : suitE ws ps L M = if agreeB ps (lastS L) (lastS M) = true then 10 else 0 := by unfold suitE; rw [hq1, hq2]; rfl
  have hag := fun W hA => rAgree_at (w.heap.size + 1) gq oq cq ps hT (lastS L) (lastS M) l0 l1 m0 m1 W hA
  have hfold : (lastS L == lastS M || (ahead ps (lastS L) (lastS M) || ahead ps (lastS M) (lastS L))) = agreeB ps (lastS L) (lastS M) := rfl
  rw [hfold] at hag
  have hXl : X.length = L.length := by rw [← HXL.out]; simp
  have hYl : Y.length = M.length := by rw [← HYM.out]; simp
  have HbX : Hid (∀ x ∈ X, ∀ u, OkB ps ⟨u, x.1.s, x.1.t⟩) := fun x hx u => rt_okB hT hq1 (by rw [← HXL.out]; exact List.mem_map.2 ⟨x, hx, rfl⟩) u
  have HbY : Hid (∀ x ∈ Y, ∀ u, OkB ps ⟨u, x.1.s, x.1.t⟩) := fun x hx u => rt_okB hT hq2 (by rw [← HYM.out]; exact List.mem_map.2 ⟨x, hx, rfl⟩) u
  clear hq1 hq2 hfold
  have hX4 : X.length ≤ 40 := by omega
  have hY4 : Y.length ≤ 40 := by omega
  have hX1 : 0 < X.length := by omega
  have hY1 : 0 < Y.length := by omega
  clear hX hY l2 l3 m2 m3 hXl hYl
  have hagn := fun (k : Nat) W hR hA hB => against_at (w.heap.size + 1) gw ow cw gq oq cq ws ps X Y p1 p2 c1 c2 (k : Int) W hR hT hA hB hX4 hY4 (fun x hx => HbX.out x hx _) (fun x hx => HbY.out x hx _)
  rw [HXL.out, HYM.out] at hagn
  have HLX : Hid (LkAt w p1 X) := h1
  have HLY : Hid (LkAt w p2 Y) := h2
  have HAG : Hid _ := hagn
  clear hagn
  rcases h1.at' with h9 | ⟨g1, o1, rfl, hcs1⟩
  · rw [h9] at hX1; simp at hX1
  rcases h2.at' with h9 | ⟨g2, o2, rfl, hcs2⟩
  · rw [h9] at hY1; simp at hY1
  obtain ⟨x, hx⟩ : ∃ x, X[X.length - 1]? = some x := ⟨_, List.getElem?_eq_getElem (by omega)⟩
  obtain ⟨y, hy⟩ : ∃ y, Y[Y.length - 1]? = some y := ⟨_, List.getElem?_eq_getElem (by omega)⟩
  have hlx : lastS L = x.1.s := by rw [← HXL.out]; unfold lastS; simp [hx]
  have hly : lastS M = y.1.s := by rw [← HYM.out]; unfold lastS; simp [hy]
  have x0 := (hcs1 (X.length - 1) x hx).1
  have y0 := (hcs2 (Y.length - 1) y hy).1
  rw [← hlx] at x0
  rw [← hly] at y0
  have k0 := (hBw5.cell (p := ⟨g1, o1 + (X.length - 1) * 3, none⟩) (World.block_lt_of_cell? w _ x0)).trans x0
  have k1 := (hBw5.cell (p := ⟨g2, o2 + (Y.length - 1) * 3, none⟩) (World.block_lt_of_cell? w _ y0)).trans y0
  clear x0 y0 hlx hly hx hy x y hcs1 hcs2 h1 h2
  obtain ⟨ll, hll⟩ : ∃ ll, lastS L = ll := ⟨_, rfl⟩
  obtain ⟨lm, hlm⟩ : ∃ lm, lastS M = lm := ⟨_, rfl⟩
  rw [hll] at hag k0 hSE
  rw [hlm] at hag k1 hSE
  obtain ⟨qa, hqa⟩ : ∃ qa, agreeB ps ll lm = qa := ⟨_, rfl⟩
  rw [hqa] at hag hSE
  have HSE : Hid _ := hSE
  clear hll hlm hqa hSE l0 l1 m0 m1
  have hks : (X.length : Int) - 1 = ((X.length - 1 : Nat) : Int) := by omega
  have hkw : IntKind.i64.wrap ((X.length - 1 : Nat) : Int) = ((X.length - 1 : Nat) : Int) := Go.IntWalk.i64_in _ (by omega)
  have hkm : X.length - 1 < X.length := by omega
  have hkm' : ((X.length - 1 : Nat) : Int) < (X.length : Int) := by omega
  have hks2 : (Y.length : Int) - 1 = ((Y.length - 1 : Nat) : Int) := by omega
  have hkw2 : IntKind.i64.wrap ((Y.length - 1 : Nat) : Int) = ((Y.length - 1 : Nat) : Int) := Go.IntWalk.i64_in _ (by omega)
  have hkm2 : Y.length - 1 < Y.length := by omega
  have hkm2' : ((Y.length - 1 : Nat) : Int) < (Y.length : Int) := by omega
  have hAd := (MKR.out w5.drew hBw5.drew hc5).tr
  go_wp2_with fail
  refine wp_region_held_drew (S := fun w' => w'.cell? ⟨g1, o1 + (X.length - 1) * 3, none⟩ = some (I64 ll) ∧ w'.cell? ⟨g2, o2 + (Y.length - 1) * 3, none⟩ = some (I64 lm)) (by kernel_rfl) ⟨k0, k1⟩ (fun hHeld => ?_)
  refine takeH (i := 0) (v := ?vv1) rfl (by kernel_rfl) (by kernel_rfl) (by kernel_rfl) (fun _ _ _ h => h) (Or.inl ⟨by rfl, ?hy1⟩) (by assumption) ?rest1
  case hy1 => (intro w hSw; (try dsimp only at hSw); go_simp; try with_reducible rfl)
  try simp only [Act.put, List.setIfInBounds_toArray, List.set_cons_zero, List.set_cons_succ]
  refine takeH (i := 1) (v := ?vv2) rfl (by kernel_rfl) (by kernel_rfl) (by kernel_rfl) (fun _ _ _ h => h) (Or.inl ⟨by rfl, ?hy2⟩) (by assumption) ?rest2
  case hy2 => (intro w hSw; (try dsimp only at hSw); go_simp; try with_reducible rfl)
  try simp only [Act.put, List.setIfInBounds_toArray, List.set_cons_zero, List.set_cons_succ]
  refine takeH (i := 2) (v := ?vv3) rfl (by kernel_rfl) (by kernel_rfl) (by kernel_rfl) (fun _ _ _ h => h) (Or.inl ⟨by rfl, ?hy3⟩) (by assumption) ?rest3
  case hy3 => (intro w hSw; (try dsimp only at hSw); go_simp; try with_reducible rfl)
  try simp only [Act.put, List.setIfInBounds_toArray, List.set_cons_zero, List.set_cons_succ]
  refine takeH (i := 3) (v := ?vv4) rfl (by kernel_rfl) (by kernel_rfl) (by kernel_rfl) (fun _ _ _ h => h) (Or.inl ⟨by rfl, ?hy4⟩) (by assumption) ?rest4
  case hy4 => (intro w hSw; (try dsimp only at hSw); go_simp; try with_reducible rfl)
  try simp only [Act.put, List.setIfInBounds_toArray, List.set_cons_zero, List.set_cons_succ]
  refine takeH (i := 4) (v := .int .i64 ((X.length - 1 : Nat) : Int)) rfl (by kernel_rfl) (by kernel_rfl) (by kernel_rfl) (fun _ _ _ h => h) (Or.inl ⟨by rfl, ?hy5⟩) (by assumption) ?rest5
  case hy5 => (intro w hSw; (try dsimp only at hSw); go_simp; try simp [*]; try omega)
  try simp only [Act.put, List.setIfInBounds_toArray, List.set_cons_zero, List.set_cons_succ]
  refine takeH (i := 5) (v := .pointer (some ⟨g1, o1 + (X.length - 1) * 3, none⟩)) rfl (by kernel_rfl) (by kernel_rfl) (by kernel_rfl) (fun _ _ _ h => h) (Or.inl ⟨by rfl, ?hy6⟩) (by assumption) ?rest6
  case hy6 => (intro w hSw; (try dsimp only at hSw); go_simp; try simp [*]; try omega)
  try simp only [Act.put, List.setIfInBounds_toArray, List.set_cons_zero, List.set_cons_succ]
  refine takeH (i := 6) (v := ?vv7) rfl (by kernel_rfl) (by kernel_rfl) (by kernel_rfl) (fun _ _ _ h => h) (Or.inl ⟨by rfl, ?hy7⟩) (by assumption) ?rest7
  case hy7 => (intro w hSw; (try dsimp only at hSw); go_simp; try with_reducible rfl)
  try simp only [Act.put, List.setIfInBounds_toArray, List.set_cons_zero, List.set_cons_succ]
  refine takeH (i := 7) (v := ?vv8) rfl (by kernel_rfl) (by kernel_rfl) (by kernel_rfl) (fun _ _ _ h => h) (Or.inl ⟨by rfl, ?hy8⟩) (by assumption) ?rest8
  case hy8 => (intro w hSw; (try dsimp only at hSw); go_simp; try with_reducible rfl)
  try simp only [Act.put, List.setIfInBounds_toArray, List.set_cons_zero, List.set_cons_succ]
  refine takeH (i := 8) (v := ?vv9) rfl (by kernel_rfl) (by kernel_rfl) (by kernel_rfl) (fun _ _ _ h => h) (Or.inl ⟨by rfl, ?hy9⟩) (by assumption) ?rest9
  case hy9 => (intro w hSw; (try dsimp only at hSw); go_simp; try with_reducible rfl)
  try simp only [Act.put, List.setIfInBounds_toArray, List.set_cons_zero, List.set_cons_succ]
  refine takeH (i := 9) (v := ?vv10) rfl (by kernel_rfl) (by kernel_rfl) (by kernel_rfl) (fun _ _ _ h => h) (Or.inl ⟨by rfl, ?hy10⟩) (by assumption) ?rest10
  case hy10 => (intro w hSw; (try dsimp only at hSw); go_simp; try with_reducible rfl)
  try simp only [Act.put, List.setIfInBounds_toArray, List.set_cons_zero, List.set_cons_succ]
  refine takeH (i := 10) (v := ?vv11) rfl (by kernel_rfl) (by kernel_rfl) (by kernel_rfl) (fun _ _ _ h => h) (Or.inl ⟨by rfl, ?hy11⟩) (by assumption) ?rest11
  case hy11 => (intro w hSw; (try dsimp only at hSw); go_simp; try with_reducible rfl)
  try simp only [Act.put, List.setIfInBounds_toArray, List.set_cons_zero, List.set_cons_succ]
  refine takeH (i := 11) (v := .int .i64 ((Y.length - 1 : Nat) : Int)) rfl (by kernel_rfl) (by kernel_rfl) (by kernel_rfl) (fun _ _ _ h => h) (Or.inl ⟨by rfl, ?hy12⟩) (by assumption) ?rest12
  case hy12 => (intro w hSw; (try dsimp only at hSw); go_simp; try simp [*]; try omega)
  try simp only [Act.put, List.setIfInBounds_toArray, List.set_cons_zero, List.set_cons_succ]
  refine takeH (i := 12) (v := .pointer (some ⟨g2, o2 + (Y.length - 1) * 3, none⟩)) rfl (by kernel_rfl) (by kernel_rfl) (by kernel_rfl) (fun _ _ _ h => h) (Or.inl ⟨by rfl, ?hy13⟩) (by assumption) ?rest13
  case hy13 => (intro w hSw; (try dsimp only at hSw); go_simp; try simp [*]; try omega)
  try simp only [Act.put, List.setIfInBounds_toArray, List.set_cons_zero, List.set_cons_succ]
  refine takeH (i := 13) (v := ?vv14) rfl (by kernel_rfl) (by kernel_rfl) (by kernel_rfl) (fun _ _ _ h => h) (Or.inl ⟨by rfl, ?hy14⟩) (by assumption) ?rest14
  case hy14 => (intro w hSw; (try dsimp only at hSw); go_simp; try with_reducible rfl)
  try simp only [Act.put, List.setIfInBounds_toArray, List.set_cons_zero, List.set_cons_succ]
  refine takeH (i := 14) (v := ?vv15) rfl (by kernel_rfl) (by kernel_rfl) (by kernel_rfl) (fun _ _ _ h => h) (Or.inl ⟨by rfl, ?hy15⟩) (by assumption) ?rest15
  case hy15 => (intro w hSw; (try dsimp only at hSw); go_simp; try with_reducible rfl)
  try simp only [Act.put, List.setIfInBounds_toArray, List.set_cons_zero, List.set_cons_succ]
  refine doneH (i := 15) rfl (by kernel_rfl) (by rfl) (fun K hK => ?_)
  have HK : Hid _ := hK
  clear hK
  go_simp
  refine (hag _ hAd).mono ?_
  rintro e w7 ⟨rfl, hw7⟩
  subst hw7
  have hHd := hHeld
  clear hHeld
  refine HK.out _ _ hHd (fun hHeld => ?_)
  clear HK K hHd
  try simp only [Act.put, List.setIfInBounds_toArray, List.set_cons_zero, List.set_cons_succ]
  refine takeH (i := 16) (v := ?vv16) rfl (by kernel_rfl) (by kernel_rfl) (by kernel_rfl) (fun _ _ _ h => h) (Or.inl ⟨by rfl, ?hy16⟩) (by assumption) ?rest16
  case hy16 => (intro w hSw; (try dsimp only at hSw); go_simp; try with_reducible rfl)
  try simp only [Act.put, List.setIfInBounds_toArray, List.set_cons_zero, List.set_cons_succ]
  clear hHeld hag hAd k0 k1 hks hkw hkm hkm' hks2 hkw2 hkm2 hkm2'
  refine wpAnyH_done (by kernel_rfl) ?_ _
  obtain ⟨w6, hw6⟩ : ∃ w6, w5.drew = w6 := ⟨_, rfl⟩
  have hBw6 : Below w.heap.size w w6 := by rw [← hw6]; exact hBw5.drew
  have hc6 : w6.heap[w.heap.size + 1]? = some (.cells #[.slice (some ⟨gw, ow, none⟩) ws.length cw, .slice (some ⟨gq, oq, none⟩) ps.length cq, .slice none 0 0] 98 (0, 0)) := by rw [← hw6]; exact hc5
  have hr6 : w6.heap[w.heap.size]? = some (.cells #[.slice none 0 0, I64 0] 28 (0, 0)) := by rw [← hw6]; exact hr5
  have hz6 : w.heap.size + 1 < w6.heap.size := by rw [← hw6]; show _ < w5.heap.size; omega
  rw [hw6]
  clear hw6 hBw5 hc5 hr5 hB5 hz5 hB4 hz4 hBw4 hB3 hz3 hza
  cases qa
  rotate_left
  · have HE : Hid (judgeE ws ps L M = 10) := by show _ = _; rw [HE.out, HSE.out]; rfl
    have HG : Hid (judgeG ws ps L M = []) := by show _ = _; unfold judgeG; rw [HE.out]; rfl
    clear HSE
    obtain ⟨⟨z0, z1⟩, fz⟩ := HC.out w6 hr6
    have HR : Hid _ := hr6
    clear hr6
    go_wp2
    obtain ⟨y0, y1, hBf⟩ := HFIN.out w6 (.slice none 0 0) 0 hBw6 HR.out
    refine ⟨rfl, .tuple #[.agg #[.slice none 0 0, I64 0], .int .i64 10], ?_, ⟨_, by rw [HE.out, HG.out]; rfl, by rw [HG.out]; exact World.ownsRow_nil _ _ _ _⟩, hBf⟩
    simp only [results, Try.f27]
    simp [go_sem, y0, y1]
  have HE2 : Hid (judgeE ws ps L M = 0) := by show _ = _; rw [HE.out, HSE.out]; rfl
  have HG2 : Hid (judgeG ws ps L M = judgeL ws.length ps L M) := by show _ = _; unfold judgeG; rw [HE2.out]; rfl
  clear HE HG HSE
  go_wp2
  obtain ⟨W0, hW0⟩ : ∃ W0, w6.alloc (.cells #[.slice none 0 0, I64 0] 28) = W0 := ⟨_, rfl⟩
  have hB0 : Below w.heap.size w W0 := by rw [← hW0]; exact hBw6.alloc (by omega) _
  have hr0 : W0.heap[w.heap.size]? = some (.cells #[.slice none 0 0, I64 0] 28 (0, 0)) := by rw [← hW0, Below.heap_alloc _ _ _ (by omega)]; exact hr6
  have hc0 : W0.heap[w.heap.size + 1]? = some (.cells #[.slice (some ⟨gw, ow, none⟩) ws.length cw, .slice (some ⟨gq, oq, none⟩) ps.length cq, .slice none 0 0] 98 (0, 0)) := by rw [← hW0, Below.heap_alloc _ _ _ (by omega)]; exact hc6
  have hv0 : W0.heap[w6.heap.size]? = some (.cells #[.slice none 0 0, I64 0] 28 (0, 0)) := by rw [← hW0]; exact heap_alloc_new w6 _
  rw [hW0]
  clear hW0 hr6 hc6 hBw6
  obtain ⟨nv, hnv⟩ : ∃ n, w6.heap.size = n := ⟨_, rfl⟩
  rw [hnv] at hz6 hv0 ⊢
  clear hnv
  go_loopw [17] (fun ii wr => ∃ (k : Nat) (v : Value) (m : Int), k ≤ ws.length ∧ ii = .int .i64 k ∧ Below w.heap.size w wr ∧ wr.heap[w.heap.size]? = some (.cells #[.slice none 0 0, I64 0] 28 (0, 0)) ∧ wr.heap[w.heap.size + 1]? = some (.cells #[.slice (some ⟨gw, ow, none⟩) ws.length cw, .slice (some ⟨gq, oq, none⟩) ps.length cq, .slice none 0 0] 98 (0, 0)) ∧ wr.heap[nv]? = some (.cells #[v, I64 m] 28 (0, 0)) ∧ wr.ownsRow (nv + 1) 73 8 v (judgeL k ps L M).length (guRow (judgeL k ps L M)) ∧ 0 ≤ m ∧ m ≤ 100 * k ∧ Hid (wSum ws ((judgeL k ps L M).map (fun g => g.v)) = m)) (fun ii _ => ws.length - (intOf ii).toNat)
  case atStart => exact ⟨0, .slice none 0 0, 0, by omega, rfl, hB0, hr0, hc0, hv0, World.ownsRow_nil _ _ _ _, by omega, by omega, rfl⟩
  case round =>
    clear hB0 hr0 hc0 hv0
    obtain ⟨k, v, m, hk, rfl, hB, hr, hc, hv, hown, hm0, hm1, HM⟩ := hrel
    have hz := hB.size
    have hlv := (Array.getElem?_eq_some_iff.1 hv).1
    by_cases hlt : k < ws.length
    · have hlt' : (k : Int) < (ws.length : Int) := by omega
      have hR := MKR.out wr hB hc
      obtain ⟨y, hy⟩ : ∃ y, ws[k]?.getD 0 = y := ⟨_, rfl⟩
      have hcw0 := HCW.out k hlt
      rw [hy] at hcw0
      have hgw : gw < w.heap.size := World.block_lt_of_cell? w _ hcw0
      have hyb := hW.wAt (v := (k : Int)) (by simpa using hlt)
      unfold wAt at hyb
      simp only [Int.toNat_natCast, hy] at hyb
      have HS : Hid _ := judgeL_succ k ps L M
      have HY : Hid (wAt ws (k : Int) = y) := by show _ = _; unfold wAt; simp [hy]
      obtain ⟨G, hG⟩ : ∃ G, judgeL k ps L M = G := ⟨_, rfl⟩
      have hgl : G.length ≤ 12 := by rw [← hG]; exact Nat.le_trans (judgeL_length _ _ _ _) (by omega)
      rw [hG] at hown HM
      have HG : Hid (judgeL k ps L M = G) := hG
      clear hG hy
      have hgo := HAG.out k wr hR (HLX.out.below hB) (HLY.out.below hB)
      cases hgv : judgeV ps L M k with
      | none =>
        have HS' : Hid (judgeL (k + 1) ps L M = G) := by show _ = _; rw [HS.out, HG.out, hgv]; simp
        rw [hgv] at hgo
        clear HS hgv
        go_wp2_with fail
        refine hgo.mono ?_
        rintro e w3 ⟨rfl, hB3⟩
        clear hgo
        have hB4 : Below w.heap.size w w3 := hB.trans (hB3.mono hz)
        have hv3 := (hB3.block _ hlv).trans hv
        have hr3 := (hB3.block (w.heap.size) (by omega)).trans hr
        have hc3 := (hB3.block (w.heap.size + 1) (by omega)).trans hc
        have hown3 := row_below hown hB3 (Nat.le_refl _)
        have hz3 := hB3.size
        go_wp2
        go_roundw
        case rel => exact ⟨k + 1, v, m, by omega, by go_num, hB4.alloc hB4.size _, (Below.heap_alloc _ _ _ (by omega)).trans hr3, (Below.heap_alloc _ _ _ (by omega)).trans hc3, (Below.heap_alloc _ _ _ (by omega)).trans hv3, by rw [HS'.out]; exact hown3.alloc _, hm0, by omega, by rw [HS'.out]; exact HM⟩
        case measure => simp [intOf]; omega
      | some gu =>
        have hkp : 0 < gu.k := judgeV_pos hgv
        have hgu := (judgeV_some hgv).1
        have HS' : Hid (judgeL (k + 1) ps L M = G ++ [gu]) := by show _ = _; rw [HS.out, HG.out, hgv]; rfl
        have HM' : Hid (wSum ws ((G ++ [gu]).map (fun g => g.v)) = m + y) := by
          show _ = _
          rw [List.map_append]
          unfold wSum at HM ⊢
          rw [List.map_append, sumI_append, HM.out]
          simp only [List.map_cons, List.map_nil, sumI_cons, sumI_nil]
          rw [hgu, HY.out]; omega
        rw [hgv] at hgo
        clear HS hgv hgu
        have h63 : Hid (G.length + 1 ≤ maxLen) := by show _ ≤ _; unfold maxLen; omega
        obtain ⟨pG, cG, hvs⟩ := row_slice hown
        subst hvs
        go_wp2_with fail
        refine hgo.mono ?_
        rintro e w3 ⟨rfl, hB3⟩
        clear hgo
        have hB4 : Below w.heap.size w w3 := hB.trans (hB3.mono hz)
        have hv3 := (hB3.block _ hlv).trans hv
        have hr3 := (hB3.block (w.heap.size) (by omega)).trans hr
        have hc3 := (hB3.block (w.heap.size + 1) (by omega)).trans hc
        have hown3 := row_below hown hB3 (Nat.le_refl _)
        have hz3 := hB3.size
        have c0 : w3.cell? ⟨nv, 0, none⟩ = some (.slice pG G.length cG) := by rw [cell_of_heap hv3]; rfl
        have c1' : w3.cell? ⟨nv, 1, none⟩ = some (I64 m) := by rw [cell_of_heap hv3]; rfl
        have cz : ∀ o, w3.frozen? ⟨nv, o, none⟩ = false := fun o => frozen_of_heap hv3 o
        have hl3 : nv < w3.heap.size := by omega
        have HV3 : Hid _ := hv3
        have HR3 : Hid _ := hr3
        have HC3 : Hid _ := hc3
        have HR : Hid _ := hR
        clear hv3 hr3 hc3 hv hr hc hR
        go_wp2_with (at_builtin; refine wpList_append_own _ (by rfl) _ _ _ (by rfl) (nv + 1) 73 i0 (.agg #[I64 0, I64 0, I64 0, I64 0, I64 0, I64 0, I64 0, I64 0]) 8 64 Try.underlying26 hi hz0 hz1 hz2 rfl (by omega) _ G.length (guRow G) (by rfl) ((hown3.alloc _).alloc _) ⟨w3.heap.size + 1, 0, none⟩ 1 1 (guCells gu) (by rfl) (by rfl) (cells_two _ _ #[I64 gu.v, I64 gu.k, I64 gu.a.v, I64 gu.a.s, I64 gu.a.t, I64 gu.b.v, I64 gu.b.s, I64 gu.b.t] _) (by simp [guCells, Value.oneCell']) h63.out (by omega) (by simp; omega) ?_; intro v1 w1 hown1 hgrow1 hnil1; have hblk : ∀ q, q < nv + 1 → w1.heap[q]? = w3.heap[q]? := (fun q hq => (hgrow1.block q (by simp; omega) (fun e => by have := (hown3.lt q e.symm).1; omega)).trans ((Below.heap_alloc _ _ _ (by simp; omega)).trans (Below.heap_alloc _ _ _ (by omega)))); have d0 : w1.cell? ⟨nv, 0, none⟩ = some (.slice pG G.length cG) := (World.cell?_of_block (hblk nv (by omega))).trans c0; have d1 : w1.cell? ⟨nv, 1, none⟩ = some (I64 m) := (World.cell?_of_block (hblk nv (by omega))).trans c1'; have dz : ∀ o, w1.frozen? ⟨nv, o, none⟩ = false := (fun o => (World.frozen?_of_block (hblk nv (by omega))).trans (cz o)); have HBL : Hid (∀ q, q < nv + 1 → w1.heap[q]? = w3.heap[q]?) := hblk; clear hblk; obtain ⟨pN, cN, hvN⟩ := row_slice hown1; subst hvN)
        have hv1 : w1.heap[nv]? = some (.cells #[.slice pG G.length cG, I64 m] 28 (0, 0)) := (HBL.out nv (by omega)).trans HV3.out
        have hr1 : w1.heap[w.heap.size]? = some (.cells #[.slice none 0 0, I64 0] 28 (0, 0)) := (HBL.out w.heap.size (by omega)).trans HR3.out
        have hc1 : w1.heap[w.heap.size + 1]? = some (.cells #[.slice (some ⟨gw, ow, none⟩) ws.length cw, .slice (some ⟨gq, oq, none⟩) ps.length cq, .slice none 0 0] 98 (0, 0)) := (HBL.out (w.heap.size + 1) (by omega)).trans HC3.out
        have hB1 : Below w.heap.size w w1 := ((hB4.alloc (by omega) _).alloc (by simp; omega) _).grown hgrow1 (by simp; omega) (fun j e => by have := (hown3.lt j e).1; omega)
        have h1w : (w1.setCell ⟨nv, 0, none⟩ (.slice pN (G.length + 1) cN)).heap[nv]? = some (.cells #[.slice pN (G.length + 1) cN, I64 m] 28 (0, 0)) := heap_setCell_same _ nv 0 _ _ _ hv1
        have h2w := two_heap hv1 (.slice pN (G.length + 1) cN) (I64 (m + y))
        have hrow2 := row_setCell (b := nv) (row_setCell (b := nv) (row_low hown1) 0 (.slice pN (G.length + 1) cN) (fun e => by have := (hown1.lt _ e).1; omega)) 1 (I64 (m + y)) (fun e => by have := (hown1.lt _ e).1; omega)
        have hgy : (w1.setCell ⟨nv, 0, none⟩ (.slice pN (G.length + 1) cN)).cell? ⟨gw, ow + k, none⟩ = some (I64 y) := ((hB1.setCell (p := ⟨nv, 0, none⟩) (by dsimp only; omega) _).cell (p := ⟨gw, ow + k, none⟩) hgw).trans hcw0
        have hn1 : (w1.setCell ⟨nv, 0, none⟩ (.slice pN (G.length + 1) cN)).cell? ⟨nv, 1, none⟩ = some (I64 m) := by rw [cell_of_heap h1w]; rfl
        have hn0 : (w1.setCell ⟨nv, 0, none⟩ (.slice pN (G.length + 1) cN)).cell? ⟨nv, 0, none⟩ = some (.slice pN (G.length + 1) cN) := by rw [cell_of_heap h1w]; rfl
        have hnz : ∀ o, (w1.setCell ⟨nv, 0, none⟩ (.slice pN (G.length + 1) cN)).frozen? ⟨nv, o, none⟩ = false := fun o => frozen_of_heap h1w o
        have H2W : Hid _ := h2w
        have HV1 : Hid _ := hv1
        have HR1 : Hid _ := hr1
        have HC1 : Hid _ := hc1
        have HRO : Hid _ := hrow2
        clear d0 d1 dz h1w h2w hv1 hr1 hc1 hrow2 c0 c1' cz
        have HB1 : Hid (Below w.heap.size w ((w1.setCell ⟨nv, 0, none⟩ (.slice pN (G.length + 1) cN)).setCell ⟨nv, 1, none⟩ (I64 (m + y)))) := (hB1.setCell (p := ⟨nv, 0, none⟩) (by dsimp only; omega) _).setCell (p := ⟨nv, 1, none⟩) (by dsimp only; omega) _
        have HRR : Hid (((w1.setCell ⟨nv, 0, none⟩ (.slice pN (G.length + 1) cN)).setCell ⟨nv, 1, none⟩ (I64 (m + y))).heap[w.heap.size]? = some (.cells #[.slice none 0 0, I64 0] 28 (0, 0))) := by
          show _ = _
          rw [Below.heap_setCell _ _ _ _ (by dsimp only; omega), Below.heap_setCell _ _ _ _ (by dsimp only; omega)]; exact HR1.out
        have HCC : Hid (((w1.setCell ⟨nv, 0, none⟩ (.slice pN (G.length + 1) cN)).setCell ⟨nv, 1, none⟩ (I64 (m + y))).heap[w.heap.size + 1]? = some (.cells #[.slice (some ⟨gw, ow, none⟩) ws.length cw, .slice (some ⟨gq, oq, none⟩) ps.length cq, .slice none 0 0] 98 (0, 0))) := by
          show _ = _
          rw [Below.heap_setCell _ _ _ _ (by dsimp only; omega), Below.heap_setCell _ _ _ _ (by dsimp only; omega)]; exact HC1.out
        obtain ⟨wz, hwz⟩ : ∃ wz, w1.setCell ⟨nv, 0, none⟩ (.slice pN (G.length + 1) cN) = wz := ⟨_, rfl⟩
        rw [hwz] at hgy hn1 hn0 hnz H2W HB1 HRR HCC HRO ⊢
        clear hwz hB1 hB HV3 HR3 HC3 HBL
        go_region

        go_wp2
        go_roundw
        case rel =>
          refine ⟨k + 1, .slice pN (G.length + 1) cN, m + y, by omega, by go_num, HB1.out.drew, HRR.out, HCC.out, H2W.out, ?_, by omega, by omega, by rw [HS'.out]; exact HM'⟩
          rw [HS'.out, guRow_append, List.length_append]
          have hrow2 := HRO.out
          refine ⟨by simpa [guRow] using hrow2.1, ?_⟩
          rcases hrow2.2 with h9 | ⟨g, cap, cur, h9, _, h10⟩
          · exact .inl h9
          · exact .inr ⟨g, cap, cur, h9, (hown1.lt g (by rw [h9]; rfl)).1, ⟨h10.1, by simpa [guRow] using h10.2⟩⟩
        case measure => simp [intOf]; omega
    · have hkk : k = ws.length := by omega
      obtain ⟨pG, cG, hvs⟩ := row_slice hown
      subst hvs
      obtain ⟨G, hG⟩ : ∃ G, judgeL k ps L M = G := ⟨_, rfl⟩
      have hGn : judgeL ws.length ps L M = G := by rw [← hkk]; exact hG
      rw [hG] at hv hown HM
      have HGN : Hid (judgeL ws.length ps L M = G) := hGn
      have c0 : wr.cell? ⟨nv, 0, none⟩ = some (.slice pG G.length cG) := by rw [cell_of_heap hv]; rfl
      have c1' : wr.cell? ⟨nv, 1, none⟩ = some (I64 m) := by rw [cell_of_heap hv]; rfl
      obtain ⟨⟨z0, z1⟩, fz⟩ := HC.out wr hr
      have HR : Hid _ := hr
      clear hr hG hGn hkk hv
      go_wp2
      obtain ⟨y0, y1, hBf⟩ := HFIN.out wr (.slice pG G.length cG) m hB HR.out
      refine ⟨rfl, .tuple #[.agg #[.slice pG G.length cG, I64 m], .int .i64 0], ?_, ⟨_, by rw [HE2.out, HG2.out, HGN.out]; unfold guW; rw [HM.out], ?_⟩, hBf⟩
      · simp only [results, Try.f27]
        simp [go_sem, y0, y1]
      · rw [HG2.out, HGN.out]
        have hlt : w.heap.size < nv + 1 := by omega
        exact row_lower (row_set (row_set hown w.heap.size 0 _ hlt) w.heap.size 1 _ hlt) (by omega)
end Go.Proofs.Ytgebcnnenhgkcaa
