/- The law Judges: Judge of data that is lent, beside the document's own answer. -/
import Derived.Test.YtgebcnnenhgkcaaGreatB26
namespace Go.Proofs.YtgebcnnenhgkcaaGreat
open Go.RowKit Go.Shelf

/-- What is kept while the law looks at what it lent: the result's variable, the verdict's, and its list. -/
structure JHold (w : World) (n5 : Nat) (W : World) (pp : Nat) (v : Value) (k : Int) (G : List Gu) : Prop where
  B : Below w.heap.size w W
  res : W.heap[w.heap.size]? = some (.cells #[.slice none 0 0, I64 0] 74 (0, 0))
  var : W.heap[pp]? = some (.cells #[v, I64 k] 74 (0, 0))
  row : W.ownsRow n5 84 8 v G.length (guRow G)
  lo : n5 ≤ pp
  hi : w.heap.size < n5
theorem JHold.chg {w : World} {n5 : Nat} {W W' : World} {pp : Nat} {v : Value} {k : Int} {G : List Gu} {S : Nat → Prop} (h : JHold w n5 W pp v k G) (hc : Chg S W W') (hs : ∀ i, S i → w.heap.size < i ∧ i < n5) : JHold w n5 W' pp v k G :=
  ⟨h.B.trans (hc.below h.B.size (fun i hi hS => by have := (hs i hS).1; omega)), (hc.block _ (Array.getElem?_eq_some_iff.1 h.res).1 (fun hS => by have := (hs _ hS).1; omega)).trans h.res, (hc.block _ (Array.getElem?_eq_some_iff.1 h.var).1 (fun hS => by have := (hs _ hS).2; have := h.lo; omega)).trans h.var, hc.row h.row (fun i hi hS => by have := (hs i hS).2; have := (h.row.lt i hi).1; omega), h.lo, h.hi⟩
theorem JHold.below {w : World} {n5 : Nat} {W W' : World} {pp : Nat} {v : Value} {k : Int} {G : List Gu} (h : JHold w n5 W pp v k G) (hB : Below W.heap.size W W') : JHold w n5 W' pp v k G := h.chg (Chg.of_below (fun _ => False) hB) (fun _ h => h.elim)
theorem drewN_below (w : World) (n : Nat) : Below w.heap.size w (w.drewN n) := below_drewN (Below.refl _ w) n
theorem two_cells {w : World} {b : Nat} {x y : Value} {t : TypeId} (h : w.heap[b]? = some (.cells #[x, y] t (0, 0))) : (w.cell? ⟨b, 0, none⟩ = some x ∧ w.cell? ⟨b, 1, none⟩ = some y) ∧ ∀ o, w.frozen? ⟨b, o, none⟩ = false := ⟨⟨by rw [cell_of_heap h]; rfl, by rw [cell_of_heap h]; rfl⟩, fun o => frozen_of_heap h o⟩
theorem max_of {n : Nat} (h : (n + 3) * 8 ≤ 140737488355328) : n ≤ maxLen ∧ n + 3 ≤ maxLen := by unfold maxLen; omega
theorem LkFit.max {X : List LkV} (h : LkFit X) : X.length ≤ maxLen := by have := h.len; unfold maxLen; omega

set_option maxRecDepth 100000 in
set_option maxHeartbeats 8000000 in
theorem judged_at (pw pq p1 p2 : Option Addr) (cw cq c1 c2 : Nat) (ws ps : List Int) (X Y : List LkV) (w : World) (hww : IntsAt w pw ws) (hwn : pw = none → cw = 0 ∧ ws = []) (hwb : (ws.length + 3) * 8 ≤ 140737488355328)
    (hpp : IntsAt w pq ps) (hpn : pq = none → cq = 0 ∧ ps = []) (hpb : (ps.length + 3) * 8 ≤ 140737488355328) (h1 : LkAt w p1 X) (f1 : LkFit X) (h2 : LkAt w p2 Y) (f2 : LkFit Y) :
    Calls Tryz.prog 94 #[.slice pw ws.length cw, .slice pq ps.length cq, .slice p1 X.length c1, .slice p2 Y.length c2] w fun e w' => (∃ v, e = .returned (.tuple #[.agg #[v, .int .i64 (guW ws (judgeG ws ps (X.map (fun x => x.1)) (Y.map (fun x => x.1))))], .bool true]) ∧ w'.ownsRow w.heap.size 84 8 v (judgeG ws ps (X.map (fun x => x.1)) (Y.map (fun x => x.1))).length (guRow (judgeG ws ps (X.map (fun x => x.1)) (Y.map (fun x => x.1))))) ∧ Below w.heap.size w w' := by
  have hGl := judgeG_length ws ps (X.map (fun x => x.1)) (Y.map (fun x => x.1))
  obtain ⟨G, hG⟩ : ∃ G, judgeG ws ps (X.map (fun x => x.1)) (Y.map (fun x => x.1)) = G := ⟨_, rfl⟩
  obtain ⟨E, hE⟩ : ∃ E, judgeE ws ps (X.map (fun x => x.1)) (Y.map (fun x => x.1)) = E := ⟨_, rfl⟩
  obtain ⟨kk, hkk⟩ : ∃ kk, guW ws G = kk := ⟨_, rfl⟩
  have HGE : Hid (judgeG ws ps (X.map (fun x => x.1)) (Y.map (fun x => x.1)) = G ∧ judgeE ws ps (X.map (fun x => x.1)) (Y.map (fun x => x.1)) = E ∧ guW ws G = kk) := ⟨hG, hE, hkk⟩
  rw [hG] at hGl
  rw [hG, hkk]
  have hlw := fun W hI => lent_any pw cw ws W hI hwn hwb
  have hlp := fun W hI => lent_any pq cq ps W hI hpn hpb
  have hd1 := fun W hI => deep_at p1 c1 X W hI f1
  have hd2 := fun W hI => deep_at p2 c2 Y W hI f2
  have hmw := max_of hwb
  have hmp := max_of hpb
  have hmX := f1.max
  have hmY := f2.max
  have hrj := fun W i1 i2 i3 i4 => rJudge_at pw pq p1 p2 cw cq c1 c2 ws ps X Y W i1 hmw.1 i2 hmp.1 i3 i4 hmX hmY
  simp only [hG, hE, hkk] at hrj
  have HRJ : Hid _ := hrj
  clear hG hE hkk
  have HM : Hid ((ws.length ≤ maxLen ∧ ws.length + 3 ≤ maxLen) ∧ (ps.length ≤ maxLen ∧ ps.length + 3 ≤ maxLen) ∧ X.length ≤ maxLen ∧ Y.length ≤ maxLen) := ⟨hmw, hmp, hmX, hmY⟩
  have HF : Hid (LkFit X ∧ LkFit Y) := ⟨f1, f2⟩
  have HWW : Hid (IntsAt w pw ws ∧ IntsAt w pq ps ∧ LkAt w p1 X ∧ LkAt w p2 Y) := ⟨hww, hpp, h1, h2⟩
  have hB0 : Below w.heap.size w (w.alloc (.cells #[.slice none 0 0, I64 0] 74)) := (Below.refl _ w).alloc (Nat.le_refl _) _
  obtain ⟨wa, hwa⟩ : ∃ wa, w.alloc (.cells #[.slice none 0 0, I64 0] 74) = wa := ⟨_, rfl⟩
  have hra : wa.heap[w.heap.size]? = some (.cells #[.slice none 0 0, I64 0] 74 (0, 0)) := by rw [← hwa]; exact heap_alloc_new w _
  have hza : wa.heap.size = w.heap.size + 1 := by rw [← hwa]; simp
  rw [hwa] at hB0
  have hlw1 := hlw wa (hww.below' hB0)
  clear hrj hmw hmp hmX hmY hwb hpb hwn hpn f1 f2 hlw
  go_enter Tryz.func94, Tryz.ntmps94
  go_wp2_with fail
  try rw [hwa]
  clear hwa
  refine hlw1.mono ?_
  rintro e w2 ⟨gw, dw, rfl, hrw, hgw, hB2⟩
  clear hlw1
  have hBw2 : Below w.heap.size w w2 := hB0.trans (hB2.mono hB0.size)
  have hz2 := hB2.size
  have hgw2 := (hrw.lt gw rfl).2
  have hlp1 := hlp w2 (hpp.below' hBw2)
  clear hlp
  go_wp2_with fail
  refine hlp1.mono ?_
  rintro e w3 ⟨gp, dp, rfl, hrp, hgp, hB3⟩
  clear hlp1
  have hBw3 : Below w.heap.size w w3 := hBw2.trans (hB3.mono hBw2.size)
  have hz3 := hB3.size
  have hgp3 := (hrp.lt gp rfl).2
  have hd11 := hd1 w3 (h1.below hBw3)
  clear hd1
  go_wp2_with fail
  refine hd11.mono ?_
  rintro e w4 ⟨vo, va, D, rfl, hD, hDl, hB4⟩
  clear hd11
  have hBw4 : Below w.heap.size w w4 := hBw3.trans (hB4.mono hBw3.size)
  have hz4 := hB4.size
  have hDr := hD.rng.1
  have hd21 := hd2 w4 (h2.below hBw4)
  clear hd2
  go_wp2_with fail
  refine hd21.mono ?_
  rintro e w5 ⟨vo', va', D', rfl, hD', hDl', hB5⟩
  clear hd21
  have hBw5 : Below w.heap.size w w5 := hBw4.trans (hB5.mono hBw4.size)
  have hz5 := hB5.size
  have hDr' := hD'.rng.1
  have hB35 : Below w3.heap.size w3 w5 := hB4.trans (hB5.mono hz4)
  have hrw5 := row_below (row_below hrw hB3 (Nat.le_refl _)) hB35 (Nat.le_refl _)
  have hrp5 := row_below hrp hB35 (Nat.le_refl _)
  have hD5 := hD.below hB5
  have hres5 : w5.heap[w.heap.size]? = some (.cells #[.slice none 0 0, I64 0] 74 (0, 0)) := (hB35.block _ (by omega)).trans ((hB3.block _ (by omega)).trans ((hB2.block _ (by omega)).trans hra))
  obtain ⟨gx, cx, rfl, hcx, hcxm, hLX⟩ := hD5.links
  obtain ⟨gy, cy, rfl, hcy, hcym, hLY⟩ := hD'.links
  have hDlen : D.length = X.length := by have := congrArg List.length hDl; simpa using this
  have hDlen' : D'.length = Y.length := by have := congrArg List.length hDl'; simpa using this
  have hmx : (D.map Dp.o).map (fun x => x.1) = X.map (fun x => x.1) := by rw [List.map_map, ← hDl]; rfl
  have hmy : (D'.map Dp.o).map (fun x => x.1) = Y.map (fun x => x.1) := by rw [List.map_map, ← hDl']; rfl
  obtain ⟨hdw, hdwm, hkw, hjw, curw, hhw, hsw⟩ := lent_open hrw5
  obtain ⟨hdp, hdpm, hkp, hjp, curp, hhp, hsp⟩ := lent_open hrp5
  obtain ⟨n5, hn5⟩ : ∃ n5, w5.heap.size = n5 := ⟨_, rfl⟩
  have hjd : ∀ W, Below w5.heap.size w5 W → Calls Tryz.prog 25 #[.slice (some ⟨gw, 0, none⟩) ws.length dw, .slice (some ⟨gp, 0, none⟩) ps.length dp, .slice (some ⟨gx, 0, none⟩) X.length cx, .slice (some ⟨gy, 0, none⟩) Y.length cy] W fun e w' => (∃ v, e = .returned (.tuple #[.agg #[v, .int .i64 (guW ws (judgeG ws ps (X.map (fun x => x.1)) (Y.map (fun x => x.1))))], .int .i64 (judgeE ws ps (X.map (fun x => x.1)) (Y.map (fun x => x.1)))]) ∧ w'.ownsRow W.heap.size 84 8 v (judgeG ws ps (X.map (fun x => x.1)) (Y.map (fun x => x.1))).length (guRow (judgeG ws ps (X.map (fun x => x.1)) (Y.map (fun x => x.1))))) ∧ Below W.heap.size W w' := fun W hBW => by
    have h9 := judge_at gw dw (some ⟨gp, 0, none⟩) (some ⟨gx, 0, none⟩) (some ⟨gy, 0, none⟩) dp cx cy ws ps (D.map Dp.o) (D'.map Dp.o) W (fun j hj => (hBW.cell (p := ⟨gw, j, none⟩) (World.block_lt_of_cell? w5 _ (hjw j hj))).trans (hjw j hj)) HM.out.1.1 (.inr ⟨gp, 0, rfl, fun j hj => by rw [Nat.zero_add]; exact (hBW.cell (p := ⟨gp, j, none⟩) (World.block_lt_of_cell? w5 _ (hjp j hj))).trans (hjp j hj)⟩) HM.out.2.1.1 (hLX.below hBW) (hLY.below hBW) (by simp only [List.length_map]; omega) (by simp only [List.length_map]; omega)
    simp only [List.length_map, hDlen, hDlen'] at h9
    rw [hmx, hmy] at h9
    exact h9
  simp only [HGE.out.1, HGE.out.2.1, HGE.out.2.2] at hjd
  have HJD : Hid _ := hjd
  rw [hDlen, hDlen']
  rw [hDlen] at hcx
  rw [hDlen'] at hcy
  have HMV : Hid ((D.map Dp.l = X.map (fun x => x.1)) ∧ D'.map Dp.l = Y.map (fun x => x.1)) := ⟨hDl, hDl'⟩
  rw [hDlen] at hD hD5
  rw [hDlen'] at hD'
  have HD1 : Hid (DeepAt w5 w.heap.size (.slice (some ⟨gx, 0, none⟩) (X.length + 3) cx) va D [spareL, spareL, spareL]) := hD5.low (by have := hBw3.size; omega)
  have HD2 : Hid (DeepAt w5 w.heap.size (.slice (some ⟨gy, 0, none⟩) (Y.length + 3) cy) va' D' [spareL, spareL, spareL]) := hD'.low (by have := hBw4.size; omega)
  have HR1 : Hid (∀ k, ((Value.slice (some ⟨gx, 0, none⟩) (X.length + 3) cx).ownBlock = some k ∨ ∃ d ∈ D, k = d.g) → w3.heap.size ≤ k ∧ k < w4.heap.size) := by rw [← hDlen]; exact hDr
  have HR2 : Hid (∀ k, ((Value.slice (some ⟨gy, 0, none⟩) (Y.length + 3) cy).ownBlock = some k ∨ ∃ d ∈ D', k = d.g) → w4.heap.size ≤ k ∧ k < w5.heap.size) := by rw [← hDlen']; exact hDr'
  have HRV : Hid (∀ k, va'.ownBlock = some k → w4.heap.size ≤ k ∧ k < w5.heap.size) := hD'.rng.2
  have HKW : Hid _ := hkw
  have HKP : Hid _ := hkp
  clear hjd hkw hkp hD hD5 hD' hDr hDr' hDl hDl' hmx hmy hDlen hDlen' hLX hLY hrw hrp hrw5 hrp5 hjw hjp hB35 hra hww hpp h1 h2
  have qw : ¬ dw < ws.length := by omega
  have qp : ¬ dp < ps.length := by omega
  have qx : ¬ cx < X.length := by omega
  have qy : ¬ cy < Y.length := by omega
  go_wp2_with fail
  refine wp_region_held_drew (S := fun _ => True) (by kernel_rfl) trivial (fun hHeld => ?_)
  refine takeH (i := 0) (v := ?vv1) rfl (by kernel_rfl) (by kernel_rfl) (by kernel_rfl) (fun _ _ _ h => h) (Or.inl ⟨by rfl, ?hy1⟩) (by assumption) ?rest1
  case hy1 => (intro w hSw; (try dsimp only at hSw); go_simp; try with_reducible rfl)
  try simp only [Act.put, List.setIfInBounds_toArray, List.set_cons_zero, List.set_cons_succ]
  refine takeH (i := 1) (v := ?vv2) rfl (by kernel_rfl) (by kernel_rfl) (by kernel_rfl) (fun _ _ _ h => h) (Or.inl ⟨by rfl, ?hy2⟩) (by assumption) ?rest2
  case hy2 => (intro w hSw; (try dsimp only at hSw); go_simp; try with_reducible rfl)
  try simp only [Act.put, List.setIfInBounds_toArray, List.set_cons_zero, List.set_cons_succ]
  refine takeH (i := 2) (v := ?vv3) rfl (by kernel_rfl) (by kernel_rfl) (by kernel_rfl) (fun _ _ _ h => h) (Or.inl ⟨by rfl, ?hy3⟩) (by assumption) ?rest3
  case hy3 => (intro w hSw; (try dsimp only at hSw); go_simp; try with_reducible rfl)
  try simp only [Act.put, List.setIfInBounds_toArray, List.set_cons_zero, List.set_cons_succ]
  refine takeH (i := 3) (v := .slice (some ⟨gw, 0, none⟩) ws.length dw) rfl (by kernel_rfl) (by kernel_rfl) (by kernel_rfl) (fun _ _ _ h => h) (Or.inl ⟨by rfl, ?hy4⟩) (by assumption) ?rest4
  case hy4 => (intro w hSw; (try dsimp only at hSw); go_simp; try simp [*]; try omega)
  try simp only [Act.put, List.setIfInBounds_toArray, List.set_cons_zero, List.set_cons_succ]
  refine takeH (i := 4) (v := ?vv5) rfl (by kernel_rfl) (by kernel_rfl) (by kernel_rfl) (fun _ _ _ h => h) (Or.inl ⟨by rfl, ?hy5⟩) (by assumption) ?rest5
  case hy5 => (intro w hSw; (try dsimp only at hSw); go_simp; try with_reducible rfl)
  try simp only [Act.put, List.setIfInBounds_toArray, List.set_cons_zero, List.set_cons_succ]
  refine takeH (i := 5) (v := ?vv6) rfl (by kernel_rfl) (by kernel_rfl) (by kernel_rfl) (fun _ _ _ h => h) (Or.inl ⟨by rfl, ?hy6⟩) (by assumption) ?rest6
  case hy6 => (intro w hSw; (try dsimp only at hSw); go_simp; try with_reducible rfl)
  try simp only [Act.put, List.setIfInBounds_toArray, List.set_cons_zero, List.set_cons_succ]
  refine takeH (i := 6) (v := ?vv7) rfl (by kernel_rfl) (by kernel_rfl) (by kernel_rfl) (fun _ _ _ h => h) (Or.inl ⟨by rfl, ?hy7⟩) (by assumption) ?rest7
  case hy7 => (intro w hSw; (try dsimp only at hSw); go_simp; try with_reducible rfl)
  try simp only [Act.put, List.setIfInBounds_toArray, List.set_cons_zero, List.set_cons_succ]
  refine takeH (i := 7) (v := .slice (some ⟨gp, 0, none⟩) ps.length dp) rfl (by kernel_rfl) (by kernel_rfl) (by kernel_rfl) (fun _ _ _ h => h) (Or.inl ⟨by rfl, ?hy8⟩) (by assumption) ?rest8
  case hy8 => (intro w hSw; (try dsimp only at hSw); go_simp; try simp [*]; try omega)
  try simp only [Act.put, List.setIfInBounds_toArray, List.set_cons_zero, List.set_cons_succ]
  refine takeH (i := 8) (v := ?vv9) rfl (by kernel_rfl) (by kernel_rfl) (by kernel_rfl) (fun _ _ _ h => h) (Or.inl ⟨by rfl, ?hy9⟩) (by assumption) ?rest9
  case hy9 => (intro w hSw; (try dsimp only at hSw); go_simp; try with_reducible rfl)
  try simp only [Act.put, List.setIfInBounds_toArray, List.set_cons_zero, List.set_cons_succ]
  refine takeH (i := 9) (v := ?vv10) rfl (by kernel_rfl) (by kernel_rfl) (by kernel_rfl) (fun _ _ _ h => h) (Or.inl ⟨by rfl, ?hy10⟩) (by assumption) ?rest10
  case hy10 => (intro w hSw; (try dsimp only at hSw); go_simp; try with_reducible rfl)
  try simp only [Act.put, List.setIfInBounds_toArray, List.set_cons_zero, List.set_cons_succ]
  refine takeH (i := 10) (v := ?vv11) rfl (by kernel_rfl) (by kernel_rfl) (by kernel_rfl) (fun _ _ _ h => h) (Or.inl ⟨by rfl, ?hy11⟩) (by assumption) ?rest11
  case hy11 => (intro w hSw; (try dsimp only at hSw); go_simp; try with_reducible rfl)
  try simp only [Act.put, List.setIfInBounds_toArray, List.set_cons_zero, List.set_cons_succ]
  refine takeH (i := 11) (v := .slice (some ⟨gx, 0, none⟩) X.length cx) rfl (by kernel_rfl) (by kernel_rfl) (by kernel_rfl) (fun _ _ _ h => h) (Or.inl ⟨by rfl, ?hy12⟩) (by assumption) ?rest12
  case hy12 => (intro w hSw; (try dsimp only at hSw); go_simp; try simp [*]; try omega)
  try simp only [Act.put, List.setIfInBounds_toArray, List.set_cons_zero, List.set_cons_succ]
  refine takeH (i := 12) (v := ?vv13) rfl (by kernel_rfl) (by kernel_rfl) (by kernel_rfl) (fun _ _ _ h => h) (Or.inl ⟨by rfl, ?hy13⟩) (by assumption) ?rest13
  case hy13 => (intro w hSw; (try dsimp only at hSw); go_simp; try with_reducible rfl)
  try simp only [Act.put, List.setIfInBounds_toArray, List.set_cons_zero, List.set_cons_succ]
  refine takeH (i := 13) (v := ?vv14) rfl (by kernel_rfl) (by kernel_rfl) (by kernel_rfl) (fun _ _ _ h => h) (Or.inl ⟨by rfl, ?hy14⟩) (by assumption) ?rest14
  case hy14 => (intro w hSw; (try dsimp only at hSw); go_simp; try with_reducible rfl)
  try simp only [Act.put, List.setIfInBounds_toArray, List.set_cons_zero, List.set_cons_succ]
  refine takeH (i := 14) (v := ?vv15) rfl (by kernel_rfl) (by kernel_rfl) (by kernel_rfl) (fun _ _ _ h => h) (Or.inl ⟨by rfl, ?hy15⟩) (by assumption) ?rest15
  case hy15 => (intro w hSw; (try dsimp only at hSw); go_simp; try with_reducible rfl)
  try simp only [Act.put, List.setIfInBounds_toArray, List.set_cons_zero, List.set_cons_succ]
  refine takeH (i := 15) (v := .slice (some ⟨gy, 0, none⟩) Y.length cy) rfl (by kernel_rfl) (by kernel_rfl) (by kernel_rfl) (fun _ _ _ h => h) (Or.inl ⟨by rfl, ?hy16⟩) (by assumption) ?rest16
  case hy16 => (intro w hSw; (try dsimp only at hSw); go_simp; try simp [*]; try omega)
  try simp only [Act.put, List.setIfInBounds_toArray, List.set_cons_zero, List.set_cons_succ]
  refine wpAnyH_ready (rs := [16, 20]) (by kernel_rfl) (by simp) ?_
  refine AllReadyH.cons (nthO_at rfl) (fun K hK => ?_) ?_
  · rw [if_pos (by rfl)]
    have HK : Hid _ := hK.out
    clear hK hHeld
    go_simp
    refine (HJD.out _ (Below.refl _ w5).drew).mono ?_
    rintro e W2 ⟨⟨v, rfl, hrow⟩, hBW2⟩
    clear HJD
    obtain ⟨pv, cv, hvs⟩ := row_slice hrow
    subst hvs
    have hB52 : Below w5.heap.size w5 W2 := (Below.refl _ w5).drew.trans hBW2
    have hrow5 : W2.ownsRow n5 84 8 (.slice pv G.length cv) G.length (guRow G) := by rw [← hn5]; exact hrow
    clear hBW2 hrow
    refine HK.out _ _ trivial (fun hHeld => ?_)
    clear HK K
    try simp only [Act.put, List.setIfInBounds_toArray, List.set_cons_zero, List.set_cons_succ]
    refine takeH (i := 17) (v := ?vv17) rfl (by kernel_rfl) (by kernel_rfl) (by kernel_rfl) (fun _ _ _ h => h) (Or.inl ⟨by rfl, ?hy17⟩) (by assumption) ?rest17
    case hy17 => (intro w hSw; (try dsimp only at hSw); go_simp; try with_reducible rfl)
    try simp only [Act.put, List.setIfInBounds_toArray, List.set_cons_zero, List.set_cons_succ]
    refine takeH (i := 18) (v := ?vv18) rfl (by kernel_rfl) (by kernel_rfl) (by kernel_rfl) (fun _ _ _ h => h) (Or.inl ⟨by rfl, ?hy18⟩) (by assumption) ?rest18
    case hy18 => (intro w hSw; (try dsimp only at hSw); go_simp; try with_reducible rfl)
    try simp only [Act.put, List.setIfInBounds_toArray, List.set_cons_zero, List.set_cons_succ]
    refine takeH (i := 19) (v := ?vv19) rfl (by kernel_rfl) (by kernel_rfl) (by kernel_rfl) (fun _ _ _ h => h) (Or.inl ⟨by rfl, ?hy19⟩) (by assumption) ?rest19
    case hy19 => (intro w hSw; (try dsimp only at hSw); go_simp; try with_reducible rfl)
    try simp only [Act.put, List.setIfInBounds_toArray, List.set_cons_zero, List.set_cons_succ]
    refine doneH (i := 20) rfl (by kernel_rfl) (by rfl) (fun K hK => ?_)
    have HK : Hid _ := hK
    clear hK
    go_simp
    obtain ⟨V, hV⟩ : ∃ V, W2.alloc (.cells #[.slice none 0 0, I64 0] 74) = V := ⟨_, rfl⟩
    have hVo : V.heap[W2.heap.size]? = some (.cells #[.slice none 0 0, I64 0] 74 (0, 0)) := by rw [← hV]; exact heap_alloc_new W2 _
    have hBp : Below w5.heap.size w5 V := by rw [← hV]; exact hB52.alloc hB52.size _
    have hrowV : V.ownsRow n5 84 8 (.slice pv G.length cv) G.length (guRow G) := by rw [← hV]; exact hrow5.alloc _
    have hpl : n5 ≤ W2.heap.size := by rw [← hn5]; exact hB52.size
    have hpv : (Value.slice pv G.length cv).ownBlock ≠ some W2.heap.size := fun e => by have := (hrow5.lt _ e).2; omega
    rw [hV]
    clear hHeld hV hB52 hrow5
    refine HK.out _ _ trivial (fun hHeld => ?_)
    clear HK K
    try simp only [Act.put, List.setIfInBounds_toArray, List.set_cons_zero, List.set_cons_succ]
    generalize W2.heap.size = pp at hVo hpl hpv ⊢
    have fz : ∀ o, V.frozen? ⟨pp, o, none⟩ = false := fun o => frozen_of_heap hVo o
    obtain ⟨⟨z0, z1⟩, _⟩ := two_cells hVo
    refine doneH (i := 21) rfl (by kernel_rfl) (by rfl) (fun K hK => ?_)
    have HK : Hid _ := hK
    clear hK
    go_simp
    have h2w := two_heap hVo (.slice pv G.length cv) (I64 kk)
    have hBY : Below n5 w5 ((V.setCell ⟨pp, 0, none⟩ (.slice pv G.length cv)).setCell ⟨pp, 1, none⟩ (I64 kk)) := by rw [← hn5]; exact (hBp.setCell (p := ⟨pp, 0, none⟩) (by show w5.heap.size ≤ pp; rw [hn5]; exact hpl) _).setCell (p := ⟨pp, 1, none⟩) (by show w5.heap.size ≤ pp; rw [hn5]; exact hpl) _
    have hrowY : ((V.setCell ⟨pp, 0, none⟩ (.slice pv G.length cv)).setCell ⟨pp, 1, none⟩ (I64 kk)).ownsRow n5 84 8 (.slice pv G.length cv) G.length (guRow G) := (((Chg.refl (fun k => k = pp) V).setCell (p := ⟨pp, 0, none⟩) (.inl rfl) _).setCell (p := ⟨pp, 1, none⟩) (.inl rfl) _).row hrowV (fun k hk e => hpv (by rw [hk, e]))
    generalize (V.setCell ⟨pp, 0, none⟩ (.slice pv G.length cv)).setCell ⟨pp, 1, none⟩ (I64 kk) = Y0 at h2w hBY hrowY ⊢
    clear hHeld fz z0 z1 hVo hBp hrowV
    refine HK.out _ _ trivial (fun hHeld => ?_)
    clear HK K
    try simp only [Act.put, List.setIfInBounds_toArray, List.set_cons_zero, List.set_cons_succ]
    refine takeH (i := 22) (v := ?vv20) rfl (by kernel_rfl) (by kernel_rfl) (by kernel_rfl) (fun _ _ _ h => h) (Or.inl ⟨by rfl, ?hy20⟩) (by assumption) ?rest20
    case hy20 => (intro w hSw; (try dsimp only at hSw); go_simp; try with_reducible rfl)
    try simp only [Act.put, List.setIfInBounds_toArray, List.set_cons_zero, List.set_cons_succ]
    clear hHeld
    refine wpAnyH_done (by kernel_rfl) ?_ _
    have hJ : JHold w n5 Y0 pp (.slice pv G.length cv) kk G := ⟨hBw5.trans (hBY.mono (by have := hBw5.size; omega)), (hBY.block _ (by omega)).trans hres5, h2w, hrowY, hpl, by omega⟩
    have hlow : ∀ {k : Nat} {o : Obj}, w5.heap[k]? = some o → k < n5 := fun h => by have := (Array.getElem?_eq_some_iff.1 h).1; omega
    have hk1 := kept_at gw dw cw pw ws Y0 (fun j hj => (hBY.cell (p := ⟨gw, j, none⟩) (hlow hhw)).trans (HKW.out j hj)) (HWW.out.1.below' hJ.B) HM.out.1.2 hdw
    clear h2w hrowY hpv
    go_wp2_with fail
    refine hk1.mono ?_
    rintro e Y1 ⟨rfl, m1, hY1⟩
    clear hk1
    have hb1 : Below Y0.heap.size Y0 Y1 := by rw [hY1]; exact drewN_below Y0 m1
    have hBY0 := hBY.size
    have hJ1 := hJ.below hb1
    have hBY1 : Below n5 w5 Y1 := hBY.trans (hb1.mono (by omega))
    clear hY1 hb1 hJ hBY hBY0
    have hk1 := kept_at gp dp cq pq ps Y1 (fun j hj => (hBY1.cell (p := ⟨gp, j, none⟩) (hlow hhp)).trans (HKP.out j hj)) (HWW.out.2.1.below' hJ1.B) HM.out.2.1.2 hdp
    go_wp2_with fail
    refine hk1.mono ?_
    rintro e Y2 ⟨rfl, m1, hY1⟩
    clear hk1
    have hb1 : Below Y1.heap.size Y1 Y2 := by rw [hY1]; exact drewN_below Y1 m1
    have hBY0 := hBY1.size
    have hJ2 := hJ1.below hb1
    have hBY2 : Below n5 w5 Y2 := hBY1.trans (hb1.mono (by omega))
    clear hY1 hb1 hJ1 hBY1 hBY0
    have hBY3 : Below w5.heap.size w5 Y2 := by rw [hn5]; exact hBY2
    have hu := unmoved_at w _ va D p1 c1 X Y2 (HD1.out.below hBY3) HWW.out.2.2.1 hJ2.B HF.out.1 HMV.out.1
    go_wp2_with fail
    refine hu.mono ?_
    rintro e Y3 ⟨rfl, hc3⟩
    clear hu
    have hJ3 := hJ2.chg hc3 (fun i hi => by have := HR1.out i hi; omega)
    have hD23 := (HD2.out.below hBY3).kept hc3 (fun k hk hs => by have := HR1.out k hs; have := HR2.out k (.inl hk); omega) (fun k hk hs => by have := HR1.out k hs; have := HRV.out k hk; omega) (fun d hd hs => by have := HR1.out d.g hs; have := HR2.out d.g (.inr ⟨d, hd, rfl⟩); omega)
    have hhw3 : Y3.heap[gw]? = some (.cells curw 3 (0, 0)) := (hc3.block gw (by have := hBY3.size; have := hlow hhw; omega) (fun hs => by have := HR1.out gw hs; omega)).trans ((hBY2.block gw (hlow hhw)).trans hhw)
    have hhp3 : Y3.heap[gp]? = some (.cells curp 3 (0, 0)) := (hc3.block gp (by have := hBY3.size; have := hlow hhp; omega) (fun hs => by have := HR1.out gp hs; omega)).trans ((hBY2.block gp (hlow hhp)).trans hhp)
    clear hc3 hBY2 hBY3 hJ2
    have hu := unmoved_at w _ va' D' p2 c2 Y Y3 hD23 HWW.out.2.2.2 hJ3.B HF.out.2 HMV.out.2
    go_wp2_with fail
    refine hu.mono ?_
    rintro e Y4 ⟨rfl, hc4⟩
    clear hu hD23
    have hJ4 := hJ3.chg hc4 (fun i hi => by have := HR2.out i hi; omega)
    have hhw4 : Y4.heap[gw]? = some (.cells curw 3 (0, 0)) := (hc4.block gw (Array.getElem?_eq_some_iff.1 hhw3).1 (fun hs => by have := HR2.out gw hs; omega)).trans hhw3
    have hhp4 : Y4.heap[gp]? = some (.cells curp 3 (0, 0)) := (hc4.block gp (Array.getElem?_eq_some_iff.1 hhp3).1 (fun hs => by have := HR2.out gp hs; omega)).trans hhp3
    clear hc4 hJ3 hhw3 hhp3
    have hu := over_at gw dw (ws.length + 3) curw Y4 hhw4 hsw HM.out.1.2
    go_wp2_with fail
    refine hu.mono ?_
    rintro e Y5 ⟨rfl, hc5, _⟩
    clear hu
    have hJ5 := hJ4.chg hc5 (fun i hi => by have := hlow hhw; omega)
    have hhp5 : Y5.heap[gp]? = some (.cells curp 3 (0, 0)) := (hc5.block gp (Array.getElem?_eq_some_iff.1 hhp4).1 (fun hs => by omega)).trans hhp4
    clear hc5 hJ4 hhp4 hhw4
    have hu := over_at gp dp (ps.length + 3) curp Y5 hhp5 hsp HM.out.2.1.2
    go_wp2_with fail
    refine hu.mono ?_
    rintro e Y6 ⟨rfl, hc6, _⟩
    clear hu
    have hJ6 := hJ5.chg hc6 (fun i hi => by have := hlow hhp; omega)
    clear hc6 hJ5 hhp5
    have hu := HRJ.out Y6 (HWW.out.1.below' hJ6.B) (HWW.out.2.1.below' hJ6.B) (HWW.out.2.2.1.below hJ6.B) (HWW.out.2.2.2.below hJ6.B)
    go_wp2_with fail
    refine hu.mono ?_
    rintro e Y7 ⟨⟨v', rfl, hrow7⟩, hB7⟩
    clear hu HRJ
    have hJ7 := hJ6.below hB7
    obtain ⟨pv', cv', hvs⟩ := row_slice hrow7
    subst hvs
    clear hJ6
    obtain ⟨qq, hqq⟩ : ∃ qq, Y7.heap.size = qq := ⟨_, rfl⟩
    obtain ⟨Z, hZ⟩ : ∃ Z, Y7.alloc (.cells #[.slice pv' G.length cv', I64 kk] 74) = Z := ⟨_, rfl⟩
    have hBZ : Below Y7.heap.size Y7 Z := by rw [← hZ]; exact (Below.refl _ Y7).alloc (Nat.le_refl _) _
    have hwZ : Z.heap[qq]? = some (.cells #[.slice pv' G.length cv', I64 kk] 74 (0, 0)) := by rw [← hZ, ← hqq]; exact heap_alloc_new Y7 _
    have hJ8 := hJ7.below hBZ
    have hqw : w.heap.size < qq := by have := (Array.getElem?_eq_some_iff.1 hJ7.res).1; omega
    have hsg := sameGuilt_at (.slice pv G.length cv) (.slice pv' G.length cv') G Z (row_gu hJ8.row) (row_gu (row_below hrow7 hBZ (Nat.le_refl _))) hGl
    obtain ⟨⟨a0, a1⟩, _⟩ := two_cells hJ8.var
    obtain ⟨⟨b0, b1⟩, _⟩ := two_cells hwZ
    clear hJ7 hBZ hrow7 hB7
    go_wp2_with fail
    refine hsg.mono ?_
    rintro e Z2 ⟨rfl, hB9⟩
    clear hsg hZ hqq
    have hJ9 := hJ8.below hB9
    have hq9 : w.heap.size < pp := Nat.lt_of_lt_of_le hJ9.hi hJ9.lo
    obtain ⟨⟨d0, d1⟩, _⟩ := two_cells hJ9.var
    have d2 : Z2.cell? ⟨qq, 1, none⟩ = some (I64 kk) := (hB9.cell (p := ⟨qq, 1, none⟩) (World.block_lt_of_cell? Z _ b1)).trans b1
    clear a0 a1 b0 b1 hwZ
    go_wp2_with fail
    refine wp_region_held_drew (S := fun w' => (w'.cell? ⟨pp, 0, none⟩ = some (.slice pv G.length cv) ∧ w'.cell? ⟨pp, 1, none⟩ = some (I64 kk)) ∧ w'.cell? ⟨qq, 1, none⟩ = some (I64 kk)) (by kernel_rfl) ⟨⟨d0, d1⟩, d2⟩ (fun hHeld => ?_)
    refine takeH (i := 0) (v := ?vv21) rfl (by kernel_rfl) (by kernel_rfl) (by kernel_rfl) (fun _ _ _ h => h) (Or.inl ⟨by rfl, ?hy21⟩) (by assumption) ?rest21
    case hy21 => (intro w hSw; (try dsimp only at hSw); go_simp; try with_reducible rfl)
    try simp only [Act.put, List.setIfInBounds_toArray, List.set_cons_zero, List.set_cons_succ]
    refine takeH (i := 1) (v := ?vv22) rfl (by kernel_rfl) (by kernel_rfl) (by kernel_rfl) (fun _ _ _ h => h) (Or.inl ⟨by rfl, ?hy22⟩) (by assumption) ?rest22
    case hy22 => (intro w hSw; (try dsimp only at hSw); go_simp; try with_reducible rfl)
    try simp only [Act.put, List.setIfInBounds_toArray, List.set_cons_zero, List.set_cons_succ]
    refine takeH (i := 2) (v := ?vv23) rfl (by kernel_rfl) (by kernel_rfl) (by kernel_rfl) (fun _ _ _ h => h) (Or.inl ⟨by rfl, ?hy23⟩) (by assumption) ?rest23
    case hy23 => (intro w hSw; (try dsimp only at hSw); go_simp; try with_reducible rfl)
    try simp only [Act.put, List.setIfInBounds_toArray, List.set_cons_zero, List.set_cons_succ]
    refine takeH (i := 3) (v := ?vv24) rfl (by kernel_rfl) (by kernel_rfl) (by kernel_rfl) (fun _ _ _ h => h) (Or.inl ⟨by rfl, ?hy24⟩) (by assumption) ?rest24
    case hy24 => (intro w hSw; (try dsimp only at hSw); go_simp; try with_reducible rfl)
    try simp only [Act.put, List.setIfInBounds_toArray, List.set_cons_zero, List.set_cons_succ]
    refine takeH (i := 4) (v := ?vv25) rfl (by kernel_rfl) (by kernel_rfl) (by kernel_rfl) (fun _ _ _ h => h) (Or.inl ⟨by rfl, ?hy25⟩) (by assumption) ?rest25
    case hy25 => (intro w hSw; (try dsimp only at hSw); go_simp; try with_reducible rfl)
    try simp only [Act.put, List.setIfInBounds_toArray, List.set_cons_zero, List.set_cons_succ]
    refine takeH (i := 5) (v := ?vv26) rfl (by kernel_rfl) (by kernel_rfl) (by kernel_rfl) (fun _ _ _ h => h) (Or.inl ⟨by rfl, ?hy26⟩) (by assumption) ?rest26
    case hy26 => (intro w hSw; (try dsimp only at hSw); go_simp; try with_reducible rfl)
    try simp only [Act.put, List.setIfInBounds_toArray, List.set_cons_zero, List.set_cons_succ]
    refine takeH (i := 6) (v := ?vv27) rfl (by kernel_rfl) (by kernel_rfl) (by kernel_rfl) (fun _ _ _ h => h) (Or.inl ⟨by rfl, ?hy27⟩) (by assumption) ?rest27
    case hy27 => (intro w hSw; (try dsimp only at hSw); go_simp; try with_reducible rfl)
    try simp only [Act.put, List.setIfInBounds_toArray, List.set_cons_zero, List.set_cons_succ]
    refine takeH (i := 7) (v := ?vv28) rfl (by kernel_rfl) (by kernel_rfl) (by kernel_rfl) (fun _ _ _ h => h) (Or.inl ⟨by rfl, ?hy28⟩) (by assumption) ?rest28
    case hy28 => (intro w hSw; (try dsimp only at hSw); go_simp; try with_reducible rfl)
    try simp only [Act.put, List.setIfInBounds_toArray, List.set_cons_zero, List.set_cons_succ]
    refine takeH (i := 8) (v := ?vv29) rfl (by kernel_rfl) (by kernel_rfl) (by kernel_rfl) (fun _ _ _ h => h) (Or.inl ⟨by rfl, ?hy29⟩) (by assumption) ?rest29
    case hy29 => (intro w hSw; (try dsimp only at hSw); go_simp; try with_reducible rfl)
    try simp only [Act.put, List.setIfInBounds_toArray, List.set_cons_zero, List.set_cons_succ]
    refine takeH (i := 9) (v := ?vv30) rfl (by kernel_rfl) (by kernel_rfl) (by kernel_rfl) (fun _ _ _ h => h) (Or.inl ⟨by rfl, ?hy30⟩) (by assumption) ?rest30
    case hy30 => (intro w hSw; (try dsimp only at hSw); go_simp; try with_reducible rfl)
    try simp only [Act.put, List.setIfInBounds_toArray, List.set_cons_zero, List.set_cons_succ]
    refine takeH (i := 10) (v := ?vv31) rfl (by kernel_rfl) (by kernel_rfl) (by kernel_rfl) (fun _ _ _ h => h) (Or.inl ⟨by rfl, ?hy31⟩) (by assumption) ?rest31
    case hy31 => (intro w hSw; (try dsimp only at hSw); go_simp; try with_reducible rfl)
    try simp only [Act.put, List.setIfInBounds_toArray, List.set_cons_zero, List.set_cons_succ]
    refine takeH (i := 11) (v := ?vv32) rfl (by kernel_rfl) (by kernel_rfl) (by kernel_rfl) (fun _ _ _ h => h) (Or.inl ⟨by rfl, ?hy32⟩) (by assumption) ?rest32
    case hy32 => (intro w hSw; (try dsimp only at hSw); go_simp; try with_reducible rfl)
    try simp only [Act.put, List.setIfInBounds_toArray, List.set_cons_zero, List.set_cons_succ]
    refine takeH (i := 12) (v := ?vv33) rfl (by kernel_rfl) (by kernel_rfl) (by kernel_rfl) (fun _ _ _ h => h) (Or.inl ⟨by rfl, ?hy33⟩) (by assumption) ?rest33
    case hy33 => (intro w hSw; (try dsimp only at hSw); go_simp; try with_reducible rfl)
    try simp only [Act.put, List.setIfInBounds_toArray, List.set_cons_zero, List.set_cons_succ]
    refine takeH (i := 13) (v := ?vv34) rfl (by kernel_rfl) (by kernel_rfl) (by kernel_rfl) (fun _ _ _ h => h) (Or.inl ⟨by rfl, ?hy34⟩) (by assumption) ?rest34
    case hy34 => (intro w hSw; (try dsimp only at hSw); go_simp; try with_reducible rfl)
    try simp only [Act.put, List.setIfInBounds_toArray, List.set_cons_zero, List.set_cons_succ]
    refine takeH (i := 14) (v := ?vv35) rfl (by kernel_rfl) (by kernel_rfl) (by kernel_rfl) (fun _ _ _ h => h) (Or.inl ⟨by rfl, ?hy35⟩) (by assumption) ?rest35
    case hy35 => (intro w hSw; (try dsimp only at hSw); go_simp; try with_reducible rfl)
    try simp only [Act.put, List.setIfInBounds_toArray, List.set_cons_zero, List.set_cons_succ]
    refine takeH (i := 15) (v := ?vv36) rfl (by kernel_rfl) (by kernel_rfl) (by kernel_rfl) (fun _ _ _ h => h) (Or.inl ⟨by rfl, ?hy36⟩) (by assumption) ?rest36
    case hy36 => (intro w hSw; (try dsimp only at hSw); go_simp; try with_reducible rfl)
    try simp only [Act.put, List.setIfInBounds_toArray, List.set_cons_zero, List.set_cons_succ]
    refine takeH (i := 16) (v := ?vv37) rfl (by kernel_rfl) (by kernel_rfl) (by kernel_rfl) (fun _ _ _ h => h) (Or.inl ⟨by rfl, ?hy37⟩) (by assumption) ?rest37
    case hy37 => (intro w hSw; (try dsimp only at hSw); go_simp; try with_reducible rfl)
    try simp only [Act.put, List.setIfInBounds_toArray, List.set_cons_zero, List.set_cons_succ]
    refine takeH (i := 17) (v := ?vv38) rfl (by kernel_rfl) (by kernel_rfl) (by kernel_rfl) (fun _ _ _ h => h) (Or.inl ⟨by rfl, ?hy38⟩) (by assumption) ?rest38
    case hy38 => (intro w hSw; (try dsimp only at hSw); go_simp; try with_reducible rfl)
    try simp only [Act.put, List.setIfInBounds_toArray, List.set_cons_zero, List.set_cons_succ]
    refine takeH (i := 18) (v := ?vv39) rfl (by kernel_rfl) (by kernel_rfl) (by kernel_rfl) (fun _ _ _ h => h) (Or.inl ⟨by rfl, ?hy39⟩) (by assumption) ?rest39
    case hy39 => (intro w hSw; (try dsimp only at hSw); go_simp; try with_reducible rfl)
    try simp only [Act.put, List.setIfInBounds_toArray, List.set_cons_zero, List.set_cons_succ]
    refine takeH (i := 19) (v := .bool true) rfl (by kernel_rfl) (by kernel_rfl) (by kernel_rfl) (fun _ _ _ h => h) (Or.inl ⟨by rfl, ?hy40⟩) (by assumption) ?rest40
    case hy40 => (intro w hSw; (try dsimp only at hSw); go_simp; try simp [*]; try omega)
    try simp only [Act.put, List.setIfInBounds_toArray, List.set_cons_zero, List.set_cons_succ]
    refine takeH (i := 20) (v := ?vv41) rfl (by kernel_rfl) (by kernel_rfl) (by kernel_rfl) (fun _ _ _ h => h) (Or.inl ⟨by rfl, ?hy41⟩) (by assumption) ?rest41
    case hy41 => (intro w hSw; (try dsimp only at hSw); go_simp; try with_reducible rfl)
    try simp only [Act.put, List.setIfInBounds_toArray, List.set_cons_zero, List.set_cons_succ]
    refine takeH (i := 21) (v := ?vv42) rfl (by kernel_rfl) (by kernel_rfl) (by kernel_rfl) (fun _ _ _ h => h) (Or.inl ⟨by rfl, ?hy42⟩) (by assumption) ?rest42
    case hy42 => (intro w hSw; (try dsimp only at hSw); go_simp; try with_reducible rfl)
    try simp only [Act.put, List.setIfInBounds_toArray, List.set_cons_zero, List.set_cons_succ]
    refine takeH (i := 22) (v := ?vv43) rfl (by kernel_rfl) (by kernel_rfl) (by kernel_rfl) (fun _ _ _ h => h) (Or.inl ⟨by rfl, ?hy43⟩) (by assumption) ?rest43
    case hy43 => (intro w hSw; (try dsimp only at hSw); go_simp; try with_reducible rfl)
    try simp only [Act.put, List.setIfInBounds_toArray, List.set_cons_zero, List.set_cons_succ]
    refine takeH (i := 24) (v := ?vv44) rfl (by kernel_rfl) (by kernel_rfl) (by kernel_rfl) (fun _ _ _ h => h) (Or.inl ⟨by rfl, ?hy44⟩) (by assumption) ?rest44
    case hy44 => (intro w hSw; (try dsimp only at hSw); go_simp; try with_reducible rfl)
    try simp only [Act.put, List.setIfInBounds_toArray, List.set_cons_zero, List.set_cons_succ]
    refine doneH (i := 23) rfl (by kernel_rfl) (by rfl) (fun K hK => ?_)
    have HK : Hid _ := hK
    clear hK
    go_simp
    refine (numJ_at E Z2.drew).mono ?_
    rintro e Z3 ⟨rfl, hZ3⟩
    subst hZ3
    clear hHeld
    refine HK.out _ _ ⟨⟨d0, d1⟩, d2⟩ (fun hHeld => ?_)
    clear HK K
    try simp only [Act.put, List.setIfInBounds_toArray, List.set_cons_zero, List.set_cons_succ]
    refine takeH (i := 25) (v := .bool true) rfl (by kernel_rfl) (by kernel_rfl) (by kernel_rfl) (fun _ _ _ h => h) (Or.inl ⟨by rfl, ?hy45⟩) (by assumption) ?rest45
    case hy45 => (intro w hSw; (try dsimp only at hSw); go_simp; try simp [*]; try omega)
    try simp only [Act.put, List.setIfInBounds_toArray, List.set_cons_zero, List.set_cons_succ]
    refine takeH (i := 26) (v := ?vv46) rfl (by kernel_rfl) (by kernel_rfl) (by kernel_rfl) (fun _ _ _ h => h) (Or.inl ⟨by rfl, ?hy46⟩) (by assumption) ?rest46
    case hy46 => (intro w hSw; (try dsimp only at hSw); go_simp; try with_reducible rfl)
    try simp only [Act.put, List.setIfInBounds_toArray, List.set_cons_zero, List.set_cons_succ]
    obtain ⟨⟨r0, r1⟩, rz⟩ := two_cells hJ9.res
    have fz : ∀ o, Z2.drew.frozen? ⟨w.heap.size, o, none⟩ = false := fun o => rz o
    have r0' : Z2.drew.cell? ⟨w.heap.size, 0, none⟩ = some (.slice none 0 0) := r0
    have r1' : Z2.drew.cell? ⟨w.heap.size, 1, none⟩ = some (I64 0) := r1
    refine doneH (i := 27) rfl (by kernel_rfl) (by rfl) (fun K hK => ?_)
    have HK : Hid _ := hK
    clear hK
    go_simp
    have e3 : (((Z2.drew.setCell ⟨w.heap.size, 0, none⟩ (.slice pv G.length cv)).setCell ⟨w.heap.size, 1, none⟩ (I64 kk)).cell? ⟨pp, 0, none⟩ = some (.slice pv G.length cv) ∧ ((Z2.drew.setCell ⟨w.heap.size, 0, none⟩ (.slice pv G.length cv)).setCell ⟨w.heap.size, 1, none⟩ (I64 kk)).cell? ⟨pp, 1, none⟩ = some (I64 kk)) ∧ ((Z2.drew.setCell ⟨w.heap.size, 0, none⟩ (.slice pv G.length cv)).setCell ⟨w.heap.size, 1, none⟩ (I64 kk)).cell? ⟨qq, 1, none⟩ = some (I64 kk) := by
      refine ⟨⟨?_, ?_⟩, ?_⟩ <;> repeat (rw [World.cell?_setCell_other _ _ _ _ (by first | (simp; done) | (simp; omega))])
      · exact d0
      · exact d1
      · exact d2
    clear hHeld
    refine HK.out _ _ e3 (fun hHeld => ?_)
    clear HK K e3
    try simp only [Act.put, List.setIfInBounds_toArray, List.set_cons_zero, List.set_cons_succ]
    refine takeH (i := 28) (v := ?vv47) rfl (by kernel_rfl) (by kernel_rfl) (by kernel_rfl) (fun _ _ _ h => h) (Or.inl ⟨by rfl, ?hy47⟩) (by assumption) ?rest47
    case hy47 => (intro w hSw; (try dsimp only at hSw); go_simp; try with_reducible rfl)
    try simp only [Act.put, List.setIfInBounds_toArray, List.set_cons_zero, List.set_cons_succ]
    clear hHeld
    refine wpAnyH_done (by kernel_rfl) ?_ _
    have h2r := two_heap hJ9.res (.slice pv G.length cv) (I64 kk)
    have h2r' : ((Z2.setCell ⟨w.heap.size, 0, none⟩ (.slice pv G.length cv)).setCell ⟨w.heap.size, 1, none⟩ (I64 kk)).drew.heap[w.heap.size]? = some (.cells #[.slice pv G.length cv, I64 kk] 74 (0, 0)) := h2r
    obtain ⟨⟨y0, y1⟩, _⟩ := two_cells h2r'
    have HBF : Hid (Below w.heap.size w ((Z2.setCell ⟨w.heap.size, 0, none⟩ (.slice pv G.length cv)).setCell ⟨w.heap.size, 1, none⟩ (I64 kk)).drew) := ((hJ9.B.setCell (p := ⟨w.heap.size, 0, none⟩) (Nat.le_refl _) _).setCell (p := ⟨w.heap.size, 1, none⟩) (Nat.le_refl _) _).drew
    have HRW : Hid (((Z2.setCell ⟨w.heap.size, 0, none⟩ (.slice pv G.length cv)).setCell ⟨w.heap.size, 1, none⟩ (I64 kk)).drew.ownsRow w.heap.size 84 8 (.slice pv G.length cv) G.length (guRow G)) := row_lower ((((Chg.refl (fun k => k = w.heap.size) Z2).setCell (p := ⟨w.heap.size, 0, none⟩) (.inl rfl) _).setCell (p := ⟨w.heap.size, 1, none⟩) (.inl rfl) _).drew.row hJ9.row (fun k hk e => by have := (hJ9.row.lt k hk).1; have := hJ9.hi; omega)) (Nat.le_of_lt hJ9.hi)
    clear r0 r1 rz r0' r1' fz d0 d1 d2 h2r h2r'
    generalize ((Z2.setCell ⟨w.heap.size, 0, none⟩ (.slice pv G.length cv)).setCell ⟨w.heap.size, 1, none⟩ (I64 kk)).drew = ZF at y0 y1 HBF HRW ⊢
    go_wp2
    refine ⟨rfl, .tuple #[.agg #[.slice pv G.length cv, I64 kk], .bool true], ?_, ⟨_, rfl, HRW.out⟩, HBF.out⟩
    simp only [results, Tryz.f94]
    simp [go_sem, y0, y1]
  refine AllReadyH.cons (nthO_at rfl) (fun K hK => ?_) ?_
  · rw [if_pos (by rfl)]
    have HK : Hid _ := hK.out
    clear hK hHeld
    go_simp
    obtain ⟨V1, hV⟩ : ∃ V, (w5.alloc (.cells #[.slice none 0 0, I64 0] 74)).drew = V := ⟨_, rfl⟩
    have hVo1 : V1.heap[w5.heap.size]? = some (.cells #[.slice none 0 0, I64 0] 74 (0, 0)) := by rw [← hV]; exact heap_alloc_new w5 _
    have hB51 : Below w5.heap.size w5 V1 := by rw [← hV]; exact ((Below.refl _ w5).alloc (Nat.le_refl _) _).drew
    have hvz : V1.heap.size = w5.heap.size + 1 := by rw [← hV]; simp
    rw [hV]
    clear hV
    refine HK.out _ _ trivial (fun hHeld => ?_)
    clear HK K
    try simp only [Act.put, List.setIfInBounds_toArray, List.set_cons_zero, List.set_cons_succ]
    refine doneH (i := 16) rfl (by kernel_rfl) (by rfl) (fun K hK => ?_)
    have HK : Hid _ := hK
    clear hK
    go_simp
    refine (HJD.out V1 hB51).mono ?_
    rintro e V ⟨⟨v, rfl, hrow⟩, hBW2⟩
    clear HJD
    obtain ⟨pv, cv, hvs⟩ := row_slice hrow
    subst hvs
    have hBp : Below w5.heap.size w5 V := hB51.trans (hBW2.mono hB51.size)
    have hrowV : V.ownsRow n5 84 8 (.slice pv G.length cv) G.length (guRow G) := row_lower hrow (by omega)
    have hVo : V.heap[w5.heap.size]? = some (.cells #[.slice none 0 0, I64 0] 74 (0, 0)) := (hBW2.block _ (by omega)).trans hVo1
    have hpl : n5 ≤ w5.heap.size := by omega
    have hpv : (Value.slice pv G.length cv).ownBlock ≠ some w5.heap.size := fun e => by have := (hrow.lt _ e).1; omega
    clear hHeld hVo1 hB51 hBW2 hrow hvz
    refine HK.out _ _ trivial (fun hHeld => ?_)
    clear HK K
    try simp only [Act.put, List.setIfInBounds_toArray, List.set_cons_zero, List.set_cons_succ]
    refine takeH (i := 17) (v := ?vv48) rfl (by kernel_rfl) (by kernel_rfl) (by kernel_rfl) (fun _ _ _ h => h) (Or.inl ⟨by rfl, ?hy48⟩) (by assumption) ?rest48
    case hy48 => (intro w hSw; (try dsimp only at hSw); go_simp; try with_reducible rfl)
    try simp only [Act.put, List.setIfInBounds_toArray, List.set_cons_zero, List.set_cons_succ]
    refine takeH (i := 18) (v := ?vv49) rfl (by kernel_rfl) (by kernel_rfl) (by kernel_rfl) (fun _ _ _ h => h) (Or.inl ⟨by rfl, ?hy49⟩) (by assumption) ?rest49
    case hy49 => (intro w hSw; (try dsimp only at hSw); go_simp; try with_reducible rfl)
    try simp only [Act.put, List.setIfInBounds_toArray, List.set_cons_zero, List.set_cons_succ]
    refine takeH (i := 19) (v := ?vv50) rfl (by kernel_rfl) (by kernel_rfl) (by kernel_rfl) (fun _ _ _ h => h) (Or.inl ⟨by rfl, ?hy50⟩) (by assumption) ?rest50
    case hy50 => (intro w hSw; (try dsimp only at hSw); go_simp; try with_reducible rfl)
    try simp only [Act.put, List.setIfInBounds_toArray, List.set_cons_zero, List.set_cons_succ]
    rw [hn5] at hVo hpv
    clear hpl
    obtain ⟨pp, hpq⟩ : ∃ pp, n5 = pp := ⟨_, rfl⟩
    rw [hpq] at hVo hpv ⊢
    have hpl : n5 ≤ pp := by omega
    have fz : ∀ o, V.frozen? ⟨pp, o, none⟩ = false := fun o => frozen_of_heap hVo o
    obtain ⟨⟨z0, z1⟩, _⟩ := two_cells hVo
    refine doneH (i := 21) rfl (by kernel_rfl) (by rfl) (fun K hK => ?_)
    have HK : Hid _ := hK
    clear hK
    go_simp
    have h2w := two_heap hVo (.slice pv G.length cv) (I64 kk)
    have hBY : Below n5 w5 ((V.setCell ⟨pp, 0, none⟩ (.slice pv G.length cv)).setCell ⟨pp, 1, none⟩ (I64 kk)) := by rw [← hn5]; exact (hBp.setCell (p := ⟨pp, 0, none⟩) (by show w5.heap.size ≤ pp; rw [hn5]; exact hpl) _).setCell (p := ⟨pp, 1, none⟩) (by show w5.heap.size ≤ pp; rw [hn5]; exact hpl) _
    have hrowY : ((V.setCell ⟨pp, 0, none⟩ (.slice pv G.length cv)).setCell ⟨pp, 1, none⟩ (I64 kk)).ownsRow n5 84 8 (.slice pv G.length cv) G.length (guRow G) := (((Chg.refl (fun k => k = pp) V).setCell (p := ⟨pp, 0, none⟩) (.inl rfl) _).setCell (p := ⟨pp, 1, none⟩) (.inl rfl) _).row hrowV (fun k hk e => hpv (by rw [hk, e]))
    generalize (V.setCell ⟨pp, 0, none⟩ (.slice pv G.length cv)).setCell ⟨pp, 1, none⟩ (I64 kk) = Y0 at h2w hBY hrowY ⊢
    clear hHeld fz z0 z1 hVo hBp hrowV
    refine HK.out _ _ trivial (fun hHeld => ?_)
    clear HK K
    try simp only [Act.put, List.setIfInBounds_toArray, List.set_cons_zero, List.set_cons_succ]
    refine takeH (i := 22) (v := ?vv51) rfl (by kernel_rfl) (by kernel_rfl) (by kernel_rfl) (fun _ _ _ h => h) (Or.inl ⟨by rfl, ?hy51⟩) (by assumption) ?rest51
    case hy51 => (intro w hSw; (try dsimp only at hSw); go_simp; try with_reducible rfl)
    try simp only [Act.put, List.setIfInBounds_toArray, List.set_cons_zero, List.set_cons_succ]
    clear hHeld
    refine wpAnyH_done (by kernel_rfl) ?_ _
    have hJ : JHold w n5 Y0 pp (.slice pv G.length cv) kk G := ⟨hBw5.trans (hBY.mono (by have := hBw5.size; omega)), (hBY.block _ (by omega)).trans hres5, h2w, hrowY, hpl, by omega⟩
    have hlow : ∀ {k : Nat} {o : Obj}, w5.heap[k]? = some o → k < n5 := fun h => by have := (Array.getElem?_eq_some_iff.1 h).1; omega
    have hk1 := kept_at gw dw cw pw ws Y0 (fun j hj => (hBY.cell (p := ⟨gw, j, none⟩) (hlow hhw)).trans (HKW.out j hj)) (HWW.out.1.below' hJ.B) HM.out.1.2 hdw
    clear h2w hrowY hpv
    go_wp2_with fail
    refine hk1.mono ?_
    rintro e Y1 ⟨rfl, m1, hY1⟩
    clear hk1
    have hb1 : Below Y0.heap.size Y0 Y1 := by rw [hY1]; exact drewN_below Y0 m1
    have hBY0 := hBY.size
    have hJ1 := hJ.below hb1
    have hBY1 : Below n5 w5 Y1 := hBY.trans (hb1.mono (by omega))
    clear hY1 hb1 hJ hBY hBY0
    have hk1 := kept_at gp dp cq pq ps Y1 (fun j hj => (hBY1.cell (p := ⟨gp, j, none⟩) (hlow hhp)).trans (HKP.out j hj)) (HWW.out.2.1.below' hJ1.B) HM.out.2.1.2 hdp
    go_wp2_with fail
    refine hk1.mono ?_
    rintro e Y2 ⟨rfl, m1, hY1⟩
    clear hk1
    have hb1 : Below Y1.heap.size Y1 Y2 := by rw [hY1]; exact drewN_below Y1 m1
    have hBY0 := hBY1.size
    have hJ2 := hJ1.below hb1
    have hBY2 : Below n5 w5 Y2 := hBY1.trans (hb1.mono (by omega))
    clear hY1 hb1 hJ1 hBY1 hBY0
    have hBY3 : Below w5.heap.size w5 Y2 := by rw [hn5]; exact hBY2
    have hu := unmoved_at w _ va D p1 c1 X Y2 (HD1.out.below hBY3) HWW.out.2.2.1 hJ2.B HF.out.1 HMV.out.1
    go_wp2_with fail
    refine hu.mono ?_
    rintro e Y3 ⟨rfl, hc3⟩
    clear hu
    have hJ3 := hJ2.chg hc3 (fun i hi => by have := HR1.out i hi; omega)
    have hD23 := (HD2.out.below hBY3).kept hc3 (fun k hk hs => by have := HR1.out k hs; have := HR2.out k (.inl hk); omega) (fun k hk hs => by have := HR1.out k hs; have := HRV.out k hk; omega) (fun d hd hs => by have := HR1.out d.g hs; have := HR2.out d.g (.inr ⟨d, hd, rfl⟩); omega)
    have hhw3 : Y3.heap[gw]? = some (.cells curw 3 (0, 0)) := (hc3.block gw (by have := hBY3.size; have := hlow hhw; omega) (fun hs => by have := HR1.out gw hs; omega)).trans ((hBY2.block gw (hlow hhw)).trans hhw)
    have hhp3 : Y3.heap[gp]? = some (.cells curp 3 (0, 0)) := (hc3.block gp (by have := hBY3.size; have := hlow hhp; omega) (fun hs => by have := HR1.out gp hs; omega)).trans ((hBY2.block gp (hlow hhp)).trans hhp)
    clear hc3 hBY2 hBY3 hJ2
    have hu := unmoved_at w _ va' D' p2 c2 Y Y3 hD23 HWW.out.2.2.2 hJ3.B HF.out.2 HMV.out.2
    go_wp2_with fail
    refine hu.mono ?_
    rintro e Y4 ⟨rfl, hc4⟩
    clear hu hD23
    have hJ4 := hJ3.chg hc4 (fun i hi => by have := HR2.out i hi; omega)
    have hhw4 : Y4.heap[gw]? = some (.cells curw 3 (0, 0)) := (hc4.block gw (Array.getElem?_eq_some_iff.1 hhw3).1 (fun hs => by have := HR2.out gw hs; omega)).trans hhw3
    have hhp4 : Y4.heap[gp]? = some (.cells curp 3 (0, 0)) := (hc4.block gp (Array.getElem?_eq_some_iff.1 hhp3).1 (fun hs => by have := HR2.out gp hs; omega)).trans hhp3
    clear hc4 hJ3 hhw3 hhp3
    have hu := over_at gw dw (ws.length + 3) curw Y4 hhw4 hsw HM.out.1.2
    go_wp2_with fail
    refine hu.mono ?_
    rintro e Y5 ⟨rfl, hc5, _⟩
    clear hu
    have hJ5 := hJ4.chg hc5 (fun i hi => by have := hlow hhw; omega)
    have hhp5 : Y5.heap[gp]? = some (.cells curp 3 (0, 0)) := (hc5.block gp (Array.getElem?_eq_some_iff.1 hhp4).1 (fun hs => by omega)).trans hhp4
    clear hc5 hJ4 hhp4 hhw4
    have hu := over_at gp dp (ps.length + 3) curp Y5 hhp5 hsp HM.out.2.1.2
    go_wp2_with fail
    refine hu.mono ?_
    rintro e Y6 ⟨rfl, hc6, _⟩
    clear hu
    have hJ6 := hJ5.chg hc6 (fun i hi => by have := hlow hhp; omega)
    clear hc6 hJ5 hhp5
    have hu := HRJ.out Y6 (HWW.out.1.below' hJ6.B) (HWW.out.2.1.below' hJ6.B) (HWW.out.2.2.1.below hJ6.B) (HWW.out.2.2.2.below hJ6.B)
    go_wp2_with fail
    refine hu.mono ?_
    rintro e Y7 ⟨⟨v', rfl, hrow7⟩, hB7⟩
    clear hu HRJ
    have hJ7 := hJ6.below hB7
    obtain ⟨pv', cv', hvs⟩ := row_slice hrow7
    subst hvs
    clear hJ6
    obtain ⟨qq, hqq⟩ : ∃ qq, Y7.heap.size = qq := ⟨_, rfl⟩
    obtain ⟨Z, hZ⟩ : ∃ Z, Y7.alloc (.cells #[.slice pv' G.length cv', I64 kk] 74) = Z := ⟨_, rfl⟩
    have hBZ : Below Y7.heap.size Y7 Z := by rw [← hZ]; exact (Below.refl _ Y7).alloc (Nat.le_refl _) _
    have hwZ : Z.heap[qq]? = some (.cells #[.slice pv' G.length cv', I64 kk] 74 (0, 0)) := by rw [← hZ, ← hqq]; exact heap_alloc_new Y7 _
    have hJ8 := hJ7.below hBZ
    have hqw : w.heap.size < qq := by have := (Array.getElem?_eq_some_iff.1 hJ7.res).1; omega
    have hsg := sameGuilt_at (.slice pv G.length cv) (.slice pv' G.length cv') G Z (row_gu hJ8.row) (row_gu (row_below hrow7 hBZ (Nat.le_refl _))) hGl
    obtain ⟨⟨a0, a1⟩, _⟩ := two_cells hJ8.var
    obtain ⟨⟨b0, b1⟩, _⟩ := two_cells hwZ
    clear hJ7 hBZ hrow7 hB7
    go_wp2_with fail
    refine hsg.mono ?_
    rintro e Z2 ⟨rfl, hB9⟩
    clear hsg hZ hqq
    have hJ9 := hJ8.below hB9
    have hq9 : w.heap.size < pp := Nat.lt_of_lt_of_le hJ9.hi hJ9.lo
    obtain ⟨⟨d0, d1⟩, _⟩ := two_cells hJ9.var
    have d2 : Z2.cell? ⟨qq, 1, none⟩ = some (I64 kk) := (hB9.cell (p := ⟨qq, 1, none⟩) (World.block_lt_of_cell? Z _ b1)).trans b1
    clear a0 a1 b0 b1 hwZ
    go_wp2_with fail
    refine wp_region_held_drew (S := fun w' => (w'.cell? ⟨pp, 0, none⟩ = some (.slice pv G.length cv) ∧ w'.cell? ⟨pp, 1, none⟩ = some (I64 kk)) ∧ w'.cell? ⟨qq, 1, none⟩ = some (I64 kk)) (by kernel_rfl) ⟨⟨d0, d1⟩, d2⟩ (fun hHeld => ?_)
    refine takeH (i := 0) (v := ?vv52) rfl (by kernel_rfl) (by kernel_rfl) (by kernel_rfl) (fun _ _ _ h => h) (Or.inl ⟨by rfl, ?hy52⟩) (by assumption) ?rest52
    case hy52 => (intro w hSw; (try dsimp only at hSw); go_simp; try with_reducible rfl)
    try simp only [Act.put, List.setIfInBounds_toArray, List.set_cons_zero, List.set_cons_succ]
    refine takeH (i := 1) (v := ?vv53) rfl (by kernel_rfl) (by kernel_rfl) (by kernel_rfl) (fun _ _ _ h => h) (Or.inl ⟨by rfl, ?hy53⟩) (by assumption) ?rest53
    case hy53 => (intro w hSw; (try dsimp only at hSw); go_simp; try with_reducible rfl)
    try simp only [Act.put, List.setIfInBounds_toArray, List.set_cons_zero, List.set_cons_succ]
    refine takeH (i := 2) (v := ?vv54) rfl (by kernel_rfl) (by kernel_rfl) (by kernel_rfl) (fun _ _ _ h => h) (Or.inl ⟨by rfl, ?hy54⟩) (by assumption) ?rest54
    case hy54 => (intro w hSw; (try dsimp only at hSw); go_simp; try with_reducible rfl)
    try simp only [Act.put, List.setIfInBounds_toArray, List.set_cons_zero, List.set_cons_succ]
    refine takeH (i := 3) (v := ?vv55) rfl (by kernel_rfl) (by kernel_rfl) (by kernel_rfl) (fun _ _ _ h => h) (Or.inl ⟨by rfl, ?hy55⟩) (by assumption) ?rest55
    case hy55 => (intro w hSw; (try dsimp only at hSw); go_simp; try with_reducible rfl)
    try simp only [Act.put, List.setIfInBounds_toArray, List.set_cons_zero, List.set_cons_succ]
    refine takeH (i := 4) (v := ?vv56) rfl (by kernel_rfl) (by kernel_rfl) (by kernel_rfl) (fun _ _ _ h => h) (Or.inl ⟨by rfl, ?hy56⟩) (by assumption) ?rest56
    case hy56 => (intro w hSw; (try dsimp only at hSw); go_simp; try with_reducible rfl)
    try simp only [Act.put, List.setIfInBounds_toArray, List.set_cons_zero, List.set_cons_succ]
    refine takeH (i := 5) (v := ?vv57) rfl (by kernel_rfl) (by kernel_rfl) (by kernel_rfl) (fun _ _ _ h => h) (Or.inl ⟨by rfl, ?hy57⟩) (by assumption) ?rest57
    case hy57 => (intro w hSw; (try dsimp only at hSw); go_simp; try with_reducible rfl)
    try simp only [Act.put, List.setIfInBounds_toArray, List.set_cons_zero, List.set_cons_succ]
    refine takeH (i := 6) (v := ?vv58) rfl (by kernel_rfl) (by kernel_rfl) (by kernel_rfl) (fun _ _ _ h => h) (Or.inl ⟨by rfl, ?hy58⟩) (by assumption) ?rest58
    case hy58 => (intro w hSw; (try dsimp only at hSw); go_simp; try with_reducible rfl)
    try simp only [Act.put, List.setIfInBounds_toArray, List.set_cons_zero, List.set_cons_succ]
    refine takeH (i := 7) (v := ?vv59) rfl (by kernel_rfl) (by kernel_rfl) (by kernel_rfl) (fun _ _ _ h => h) (Or.inl ⟨by rfl, ?hy59⟩) (by assumption) ?rest59
    case hy59 => (intro w hSw; (try dsimp only at hSw); go_simp; try with_reducible rfl)
    try simp only [Act.put, List.setIfInBounds_toArray, List.set_cons_zero, List.set_cons_succ]
    refine takeH (i := 8) (v := ?vv60) rfl (by kernel_rfl) (by kernel_rfl) (by kernel_rfl) (fun _ _ _ h => h) (Or.inl ⟨by rfl, ?hy60⟩) (by assumption) ?rest60
    case hy60 => (intro w hSw; (try dsimp only at hSw); go_simp; try with_reducible rfl)
    try simp only [Act.put, List.setIfInBounds_toArray, List.set_cons_zero, List.set_cons_succ]
    refine takeH (i := 9) (v := ?vv61) rfl (by kernel_rfl) (by kernel_rfl) (by kernel_rfl) (fun _ _ _ h => h) (Or.inl ⟨by rfl, ?hy61⟩) (by assumption) ?rest61
    case hy61 => (intro w hSw; (try dsimp only at hSw); go_simp; try with_reducible rfl)
    try simp only [Act.put, List.setIfInBounds_toArray, List.set_cons_zero, List.set_cons_succ]
    refine takeH (i := 10) (v := ?vv62) rfl (by kernel_rfl) (by kernel_rfl) (by kernel_rfl) (fun _ _ _ h => h) (Or.inl ⟨by rfl, ?hy62⟩) (by assumption) ?rest62
    case hy62 => (intro w hSw; (try dsimp only at hSw); go_simp; try with_reducible rfl)
    try simp only [Act.put, List.setIfInBounds_toArray, List.set_cons_zero, List.set_cons_succ]
    refine takeH (i := 11) (v := ?vv63) rfl (by kernel_rfl) (by kernel_rfl) (by kernel_rfl) (fun _ _ _ h => h) (Or.inl ⟨by rfl, ?hy63⟩) (by assumption) ?rest63
    case hy63 => (intro w hSw; (try dsimp only at hSw); go_simp; try with_reducible rfl)
    try simp only [Act.put, List.setIfInBounds_toArray, List.set_cons_zero, List.set_cons_succ]
    refine takeH (i := 12) (v := ?vv64) rfl (by kernel_rfl) (by kernel_rfl) (by kernel_rfl) (fun _ _ _ h => h) (Or.inl ⟨by rfl, ?hy64⟩) (by assumption) ?rest64
    case hy64 => (intro w hSw; (try dsimp only at hSw); go_simp; try with_reducible rfl)
    try simp only [Act.put, List.setIfInBounds_toArray, List.set_cons_zero, List.set_cons_succ]
    refine takeH (i := 13) (v := ?vv65) rfl (by kernel_rfl) (by kernel_rfl) (by kernel_rfl) (fun _ _ _ h => h) (Or.inl ⟨by rfl, ?hy65⟩) (by assumption) ?rest65
    case hy65 => (intro w hSw; (try dsimp only at hSw); go_simp; try with_reducible rfl)
    try simp only [Act.put, List.setIfInBounds_toArray, List.set_cons_zero, List.set_cons_succ]
    refine takeH (i := 14) (v := ?vv66) rfl (by kernel_rfl) (by kernel_rfl) (by kernel_rfl) (fun _ _ _ h => h) (Or.inl ⟨by rfl, ?hy66⟩) (by assumption) ?rest66
    case hy66 => (intro w hSw; (try dsimp only at hSw); go_simp; try with_reducible rfl)
    try simp only [Act.put, List.setIfInBounds_toArray, List.set_cons_zero, List.set_cons_succ]
    refine takeH (i := 15) (v := ?vv67) rfl (by kernel_rfl) (by kernel_rfl) (by kernel_rfl) (fun _ _ _ h => h) (Or.inl ⟨by rfl, ?hy67⟩) (by assumption) ?rest67
    case hy67 => (intro w hSw; (try dsimp only at hSw); go_simp; try with_reducible rfl)
    try simp only [Act.put, List.setIfInBounds_toArray, List.set_cons_zero, List.set_cons_succ]
    refine takeH (i := 16) (v := ?vv68) rfl (by kernel_rfl) (by kernel_rfl) (by kernel_rfl) (fun _ _ _ h => h) (Or.inl ⟨by rfl, ?hy68⟩) (by assumption) ?rest68
    case hy68 => (intro w hSw; (try dsimp only at hSw); go_simp; try with_reducible rfl)
    try simp only [Act.put, List.setIfInBounds_toArray, List.set_cons_zero, List.set_cons_succ]
    refine takeH (i := 17) (v := ?vv69) rfl (by kernel_rfl) (by kernel_rfl) (by kernel_rfl) (fun _ _ _ h => h) (Or.inl ⟨by rfl, ?hy69⟩) (by assumption) ?rest69
    case hy69 => (intro w hSw; (try dsimp only at hSw); go_simp; try with_reducible rfl)
    try simp only [Act.put, List.setIfInBounds_toArray, List.set_cons_zero, List.set_cons_succ]
    refine takeH (i := 18) (v := ?vv70) rfl (by kernel_rfl) (by kernel_rfl) (by kernel_rfl) (fun _ _ _ h => h) (Or.inl ⟨by rfl, ?hy70⟩) (by assumption) ?rest70
    case hy70 => (intro w hSw; (try dsimp only at hSw); go_simp; try with_reducible rfl)
    try simp only [Act.put, List.setIfInBounds_toArray, List.set_cons_zero, List.set_cons_succ]
    refine takeH (i := 19) (v := .bool true) rfl (by kernel_rfl) (by kernel_rfl) (by kernel_rfl) (fun _ _ _ h => h) (Or.inl ⟨by rfl, ?hy71⟩) (by assumption) ?rest71
    case hy71 => (intro w hSw; (try dsimp only at hSw); go_simp; try simp [*]; try omega)
    try simp only [Act.put, List.setIfInBounds_toArray, List.set_cons_zero, List.set_cons_succ]
    refine takeH (i := 20) (v := ?vv72) rfl (by kernel_rfl) (by kernel_rfl) (by kernel_rfl) (fun _ _ _ h => h) (Or.inl ⟨by rfl, ?hy72⟩) (by assumption) ?rest72
    case hy72 => (intro w hSw; (try dsimp only at hSw); go_simp; try with_reducible rfl)
    try simp only [Act.put, List.setIfInBounds_toArray, List.set_cons_zero, List.set_cons_succ]
    refine takeH (i := 21) (v := ?vv73) rfl (by kernel_rfl) (by kernel_rfl) (by kernel_rfl) (fun _ _ _ h => h) (Or.inl ⟨by rfl, ?hy73⟩) (by assumption) ?rest73
    case hy73 => (intro w hSw; (try dsimp only at hSw); go_simp; try with_reducible rfl)
    try simp only [Act.put, List.setIfInBounds_toArray, List.set_cons_zero, List.set_cons_succ]
    refine takeH (i := 22) (v := ?vv74) rfl (by kernel_rfl) (by kernel_rfl) (by kernel_rfl) (fun _ _ _ h => h) (Or.inl ⟨by rfl, ?hy74⟩) (by assumption) ?rest74
    case hy74 => (intro w hSw; (try dsimp only at hSw); go_simp; try with_reducible rfl)
    try simp only [Act.put, List.setIfInBounds_toArray, List.set_cons_zero, List.set_cons_succ]
    refine takeH (i := 24) (v := ?vv75) rfl (by kernel_rfl) (by kernel_rfl) (by kernel_rfl) (fun _ _ _ h => h) (Or.inl ⟨by rfl, ?hy75⟩) (by assumption) ?rest75
    case hy75 => (intro w hSw; (try dsimp only at hSw); go_simp; try with_reducible rfl)
    try simp only [Act.put, List.setIfInBounds_toArray, List.set_cons_zero, List.set_cons_succ]
    refine doneH (i := 23) rfl (by kernel_rfl) (by rfl) (fun K hK => ?_)
    have HK : Hid _ := hK
    clear hK
    go_simp
    refine (numJ_at E Z2.drew).mono ?_
    rintro e Z3 ⟨rfl, hZ3⟩
    subst hZ3
    clear hHeld
    refine HK.out _ _ ⟨⟨d0, d1⟩, d2⟩ (fun hHeld => ?_)
    clear HK K
    try simp only [Act.put, List.setIfInBounds_toArray, List.set_cons_zero, List.set_cons_succ]
    refine takeH (i := 25) (v := .bool true) rfl (by kernel_rfl) (by kernel_rfl) (by kernel_rfl) (fun _ _ _ h => h) (Or.inl ⟨by rfl, ?hy76⟩) (by assumption) ?rest76
    case hy76 => (intro w hSw; (try dsimp only at hSw); go_simp; try simp [*]; try omega)
    try simp only [Act.put, List.setIfInBounds_toArray, List.set_cons_zero, List.set_cons_succ]
    refine takeH (i := 26) (v := ?vv77) rfl (by kernel_rfl) (by kernel_rfl) (by kernel_rfl) (fun _ _ _ h => h) (Or.inl ⟨by rfl, ?hy77⟩) (by assumption) ?rest77
    case hy77 => (intro w hSw; (try dsimp only at hSw); go_simp; try with_reducible rfl)
    try simp only [Act.put, List.setIfInBounds_toArray, List.set_cons_zero, List.set_cons_succ]
    obtain ⟨⟨r0, r1⟩, rz⟩ := two_cells hJ9.res
    have fz : ∀ o, Z2.drew.frozen? ⟨w.heap.size, o, none⟩ = false := fun o => rz o
    have r0' : Z2.drew.cell? ⟨w.heap.size, 0, none⟩ = some (.slice none 0 0) := r0
    have r1' : Z2.drew.cell? ⟨w.heap.size, 1, none⟩ = some (I64 0) := r1
    refine doneH (i := 27) rfl (by kernel_rfl) (by rfl) (fun K hK => ?_)
    have HK : Hid _ := hK
    clear hK
    go_simp
    have e3 : (((Z2.drew.setCell ⟨w.heap.size, 0, none⟩ (.slice pv G.length cv)).setCell ⟨w.heap.size, 1, none⟩ (I64 kk)).cell? ⟨pp, 0, none⟩ = some (.slice pv G.length cv) ∧ ((Z2.drew.setCell ⟨w.heap.size, 0, none⟩ (.slice pv G.length cv)).setCell ⟨w.heap.size, 1, none⟩ (I64 kk)).cell? ⟨pp, 1, none⟩ = some (I64 kk)) ∧ ((Z2.drew.setCell ⟨w.heap.size, 0, none⟩ (.slice pv G.length cv)).setCell ⟨w.heap.size, 1, none⟩ (I64 kk)).cell? ⟨qq, 1, none⟩ = some (I64 kk) := by
      refine ⟨⟨?_, ?_⟩, ?_⟩ <;> repeat (rw [World.cell?_setCell_other _ _ _ _ (by first | (simp; done) | (simp; omega))])
      · exact d0
      · exact d1
      · exact d2
    clear hHeld
    refine HK.out _ _ e3 (fun hHeld => ?_)
    clear HK K e3
    try simp only [Act.put, List.setIfInBounds_toArray, List.set_cons_zero, List.set_cons_succ]
    refine takeH (i := 28) (v := ?vv78) rfl (by kernel_rfl) (by kernel_rfl) (by kernel_rfl) (fun _ _ _ h => h) (Or.inl ⟨by rfl, ?hy78⟩) (by assumption) ?rest78
    case hy78 => (intro w hSw; (try dsimp only at hSw); go_simp; try with_reducible rfl)
    try simp only [Act.put, List.setIfInBounds_toArray, List.set_cons_zero, List.set_cons_succ]
    clear hHeld
    refine wpAnyH_done (by kernel_rfl) ?_ _
    have h2r := two_heap hJ9.res (.slice pv G.length cv) (I64 kk)
    have h2r' : ((Z2.setCell ⟨w.heap.size, 0, none⟩ (.slice pv G.length cv)).setCell ⟨w.heap.size, 1, none⟩ (I64 kk)).drew.heap[w.heap.size]? = some (.cells #[.slice pv G.length cv, I64 kk] 74 (0, 0)) := h2r
    obtain ⟨⟨y0, y1⟩, _⟩ := two_cells h2r'
    have HBF : Hid (Below w.heap.size w ((Z2.setCell ⟨w.heap.size, 0, none⟩ (.slice pv G.length cv)).setCell ⟨w.heap.size, 1, none⟩ (I64 kk)).drew) := ((hJ9.B.setCell (p := ⟨w.heap.size, 0, none⟩) (Nat.le_refl _) _).setCell (p := ⟨w.heap.size, 1, none⟩) (Nat.le_refl _) _).drew
    have HRW : Hid (((Z2.setCell ⟨w.heap.size, 0, none⟩ (.slice pv G.length cv)).setCell ⟨w.heap.size, 1, none⟩ (I64 kk)).drew.ownsRow w.heap.size 84 8 (.slice pv G.length cv) G.length (guRow G)) := row_lower ((((Chg.refl (fun k => k = w.heap.size) Z2).setCell (p := ⟨w.heap.size, 0, none⟩) (.inl rfl) _).setCell (p := ⟨w.heap.size, 1, none⟩) (.inl rfl) _).drew.row hJ9.row (fun k hk e => by have := (hJ9.row.lt k hk).1; have := hJ9.hi; omega)) (Nat.le_of_lt hJ9.hi)
    clear r0 r1 rz r0' r1' fz d0 d1 d2 h2r h2r'
    generalize ((Z2.setCell ⟨w.heap.size, 0, none⟩ (.slice pv G.length cv)).setCell ⟨w.heap.size, 1, none⟩ (I64 kk)).drew = ZF at y0 y1 HBF HRW ⊢
    go_wp2
    refine ⟨rfl, .tuple #[.agg #[.slice pv G.length cv, I64 kk], .bool true], ?_, ⟨_, rfl, HRW.out⟩, HBF.out⟩
    simp only [results, Tryz.f94]
    simp [go_sem, y0, y1]
  exact AllReadyH.nil
end Go.Proofs.YtgebcnnenhgkcaaGreat
