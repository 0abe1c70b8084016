/- The law All: one step. -/
import Derived.Test.YtgebcnnenhgkcaaGreatB31
import Derived.Test.YtgebcnnenhgkcaaGreatB19
namespace Go.Proofs.YtgebcnnenhgkcaaGreat
open Go.RowKit Go.Shelf

set_option maxHeartbeats 2000000 in
theorem stepN_at (x : Nat) (kd k a b' c : Int) (wsv : Value) (w : World) (hk : 9 ≤ kd) :
    Calls Tryz.prog 11 #[.pointer (some ⟨x, 0, none⟩), opVal kd k a b' c wsv] w fun e w' => e = .returned (.bool true) ∧ Below w.heap.size w w' := by
  have e1 : (kd == (1 : Int)) = false := beq_eq_false_iff_ne.2 (by omega)
  have e2 : (kd == (2 : Int)) = false := beq_eq_false_iff_ne.2 (by omega)
  have e3 : (kd == (3 : Int)) = false := beq_eq_false_iff_ne.2 (by omega)
  have e4 : (kd == (4 : Int)) = false := beq_eq_false_iff_ne.2 (by omega)
  have e5 : (kd == (5 : Int)) = false := beq_eq_false_iff_ne.2 (by omega)
  have e6 : (kd == (6 : Int)) = false := beq_eq_false_iff_ne.2 (by omega)
  go_enter Tryz.func11, Tryz.ntmps11
  go_wp2
  go_ret
  exact ⟨rfl, (Below.refl _ w).alloc (Nat.le_refl _) _⟩

/-- The World behind a step: at most some lists more. -/
def NextW (w0 w' : World) (bw nc ni ng nl : Nat) : Prop := ∃ col' C' vc' vi' vg' vl' I' G' L', AllSt w0 w' col' bw C' vc' vi' vg' vl' I' G' L' ∧ nc ≤ C'.length ∧ C'.length ≤ nc + 1 ∧ I'.length ≤ ni + 410 ∧ G'.length ≤ ng + 10 ∧ L'.length ≤ nl + 20

set_option maxRecDepth 100000 in
set_option maxHeartbeats 4000000 in
theorem stepW_at (w0 w : World) (col : Nat → Nat) (bw : Nat) (C : List (Nat × List Int)) (vc vi vg vl : Value) (I G L : List Value) (h : AllSt w0 w col bw C vc vi vg vl I G L) (kd k a b' c : Int) (pw : Option Addr) (cw : Nat) (wl : List Int)
    (hk : -9223372036854775808 ≤ k ∧ k ≤ 9223372036854775807) (ha : -9223372036854775808 ≤ a ∧ a ≤ 9223372036854775807) (hb' : -9223372036854775808 ≤ b' ∧ b' ≤ 9223372036854775807) (hwi : IntsAt w0 pw wl) (hwn : pw = none → cw = 0 ∧ wl = []) (hwb : (wl.length + 3) * 8 ≤ 140737488355328)
    (hC0 : 0 < C.length) (hCl : C.length ≤ 999990000) (hI : I.length ≤ 999990000) (hG : G.length ≤ 999990000) (hL : L.length ≤ 999990000) :
    Calls Tryz.prog 17 #[.pointer (some ⟨bw, 0, none⟩), opVal kd k a b' c (.slice pw wl.length cw)] w fun e w' => e = .returned (.bool true) ∧ NextW w0 w' bw C.length I.length G.length L.length := by
  obtain ⟨n0, hn0⟩ : ∃ n0, w.heap.size = n0 := ⟨_, rfl⟩
  obtain ⟨w1, hw1⟩ : ∃ w1, w.alloc (.cells #[I64 kd, I64 k, I64 a, I64 b', I64 c, .slice pw wl.length cw] 34) = w1 := ⟨_, rfl⟩
  have hB1 : Below w.heap.size w w1 := by rw [← hw1]; exact (Below.refl _ w).alloc (Nat.le_refl _) _
  have ho1 : w1.heap[n0]? = some (.cells #[I64 kd, I64 k, I64 a, I64 b', I64 c, .slice pw wl.length cw] 34 (0, 0)) := by rw [← hw1, ← hn0]; exact heap_alloc_new w _
  have h1 := h.below hB1 0
  obtain ⟨col1, hc1e⟩ : ∃ col1, ext w.heap.size col 0 = col1 := ⟨_, rfl⟩
  rw [hc1e] at h1
  clear hc1e h
  have o0 : w1.cell? ⟨n0, 0, none⟩ = some (I64 kd) := by rw [cell_of_heap ho1]; rfl
  have o1 : w1.cell? ⟨n0, 1, none⟩ = some (I64 k) := by rw [cell_of_heap ho1]; rfl
  have o2 : w1.cell? ⟨n0, 2, none⟩ = some (I64 a) := by rw [cell_of_heap ho1]; rfl
  have o3 : w1.cell? ⟨n0, 3, none⟩ = some (I64 b') := by rw [cell_of_heap ho1]; rfl
  have o4 : w1.cell? ⟨n0, 4, none⟩ = some (I64 c) := by rw [cell_of_heap ho1]; rfl
  have o5 : w1.cell? ⟨n0, 5, none⟩ = some (.slice pw wl.length cw) := by rw [cell_of_heap ho1]; rfl
  clear ho1
  by_cases e7 : kd = 7
  · subst e7
    have hmd := madeW_at w0 w1 col1 bw C vc vi vg vl I G L h1 pw cw wl (hwi.below' h1.B) hwn hwb (by omega)
    clear hwb
    go_enter Tryz.func17, Tryz.ntmps17
    go_wp2_with fail
    try rw [hw1]
    refine hmd.mono ?_
    rintro e w2 ⟨rfl, col', C', vc', h2, l1, l2, _⟩
    clear hmd
    go_wp2
    go_ret
    exact ⟨rfl, _, _, _, _, _, _, _, _, _, h2, l1, l2, by omega, by omega, by omega⟩
  have e7' : (kd == (7 : Int)) = false := beq_eq_false_iff_ne.2 e7
  obtain ⟨ki, hki, hpk⟩ := lawPick_at k C.length hC0 (by omega) hk
  obtain ⟨⟨x, ws⟩, hi⟩ : ∃ d, C[ki]? = some d := ⟨_, List.getElem?_eq_getElem hki⟩
  obtain ⟨gC, cC, hvc, _, hcc⟩ := one_cell h1.crow (j := ki) (u := .pointer (some ⟨x, 0, none⟩)) (by simp [hi])
  subst hvc
  have hki' : (ki : Int) < (C.length : Int) := by omega
  have b0 : w1.cell? ⟨bw, 0, none⟩ = some (.slice (some ⟨gC, 0, none⟩) C.length cC) := by rw [cell_of_heap h1.ls.hb]; rfl
  have HH1 : Hid _ := h1
  clear h1 hwi hwn hwb hB1
  go_enter Tryz.func17, Tryz.ntmps17
  go_wp2_with fail
  try rw [hw1]
  try rw [hn0]
  clear hw1 hn0
  refine wp_region_held_drew (S := fun w' => (w'.cell? ⟨bw, 0, none⟩ = some (.slice (some ⟨gC, 0, none⟩) C.length cC) ∧ w'.cell? ⟨n0, 1, none⟩ = some (I64 k)) ∧ w'.cell? ⟨gC, ki, none⟩ = some (.pointer (some ⟨x, 0, none⟩))) (by kernel_rfl) ⟨⟨b0, o1⟩, hcc⟩ (fun hHeld => ?_)
  refine takeH (i := 0) (v := ?vv1) rfl (by kernel_rfl) (by kernel_rfl) (by kernel_rfl) (fun _ _ _ h => h) (Or.inl ⟨by rfl, ?hy1⟩) (by assumption) ?rest1
  case hy1 => (intro w hSw; (try dsimp only at hSw); go_simp; try with_reducible rfl)
  try simp only [Act.put, List.setIfInBounds_toArray, List.set_cons_zero, List.set_cons_succ]
  refine takeH (i := 1) (v := ?vv2) rfl (by kernel_rfl) (by kernel_rfl) (by kernel_rfl) (fun _ _ _ h => h) (Or.inl ⟨by rfl, ?hy2⟩) (by assumption) ?rest2
  case hy2 => (intro w hSw; (try dsimp only at hSw); go_simp; try with_reducible rfl)
  try simp only [Act.put, List.setIfInBounds_toArray, List.set_cons_zero, List.set_cons_succ]
  refine takeH (i := 2) (v := ?vv3) rfl (by kernel_rfl) (by kernel_rfl) (by kernel_rfl) (fun _ _ _ h => h) (Or.inl ⟨by rfl, ?hy3⟩) (by assumption) ?rest3
  case hy3 => (intro w hSw; (try dsimp only at hSw); go_simp; try with_reducible rfl)
  try simp only [Act.put, List.setIfInBounds_toArray, List.set_cons_zero, List.set_cons_succ]
  refine takeH (i := 3) (v := ?vv4) rfl (by kernel_rfl) (by kernel_rfl) (by kernel_rfl) (fun _ _ _ h => h) (Or.inl ⟨by rfl, ?hy4⟩) (by assumption) ?rest4
  case hy4 => (intro w hSw; (try dsimp only at hSw); go_simp; try with_reducible rfl)
  try simp only [Act.put, List.setIfInBounds_toArray, List.set_cons_zero, List.set_cons_succ]
  refine takeH (i := 4) (v := ?vv5) rfl (by kernel_rfl) (by kernel_rfl) (by kernel_rfl) (fun _ _ _ h => h) (Or.inl ⟨by rfl, ?hy5⟩) (by assumption) ?rest5
  case hy5 => (intro w hSw; (try dsimp only at hSw); go_simp; try with_reducible rfl)
  try simp only [Act.put, List.setIfInBounds_toArray, List.set_cons_zero, List.set_cons_succ]
  refine takeH (i := 5) (v := ?vv6) rfl (by kernel_rfl) (by kernel_rfl) (by kernel_rfl) (fun _ _ _ h => h) (Or.inl ⟨by rfl, ?hy6⟩) (by assumption) ?rest6
  case hy6 => (intro w hSw; (try dsimp only at hSw); go_simp; try with_reducible rfl)
  try simp only [Act.put, List.setIfInBounds_toArray, List.set_cons_zero, List.set_cons_succ]
  refine takeH (i := 6) (v := ?vv7) rfl (by kernel_rfl) (by kernel_rfl) (by kernel_rfl) (fun _ _ _ h => h) (Or.inl ⟨by rfl, ?hy7⟩) (by assumption) ?rest7
  case hy7 => (intro w hSw; (try dsimp only at hSw); go_simp; try with_reducible rfl)
  try simp only [Act.put, List.setIfInBounds_toArray, List.set_cons_zero, List.set_cons_succ]
  refine takeH (i := 7) (v := ?vv8) rfl (by kernel_rfl) (by kernel_rfl) (by kernel_rfl) (fun _ _ _ h => h) (Or.inl ⟨by rfl, ?hy8⟩) (by assumption) ?rest8
  case hy8 => (intro w hSw; (try dsimp only at hSw); go_simp; try with_reducible rfl)
  try simp only [Act.put, List.setIfInBounds_toArray, List.set_cons_zero, List.set_cons_succ]
  refine takeH (i := 8) (v := ?vv9) rfl (by kernel_rfl) (by kernel_rfl) (by kernel_rfl) (fun _ _ _ h => h) (Or.inl ⟨by rfl, ?hy9⟩) (by assumption) ?rest9
  case hy9 => (intro w hSw; (try dsimp only at hSw); go_simp; try with_reducible rfl)
  try simp only [Act.put, List.setIfInBounds_toArray, List.set_cons_zero, List.set_cons_succ]
  refine takeH (i := 9) (v := ?vv10) rfl (by kernel_rfl) (by kernel_rfl) (by kernel_rfl) (fun _ _ _ h => h) (Or.inl ⟨by rfl, ?hy10⟩) (by assumption) ?rest10
  case hy10 => (intro w hSw; (try dsimp only at hSw); go_simp; try with_reducible rfl)
  try simp only [Act.put, List.setIfInBounds_toArray, List.set_cons_zero, List.set_cons_succ]
  refine takeH (i := 10) (v := ?vv11) rfl (by kernel_rfl) (by kernel_rfl) (by kernel_rfl) (fun _ _ _ h => h) (Or.inl ⟨by rfl, ?hy11⟩) (by assumption) ?rest11
  case hy11 => (intro w hSw; (try dsimp only at hSw); go_simp; try with_reducible rfl)
  try simp only [Act.put, List.setIfInBounds_toArray, List.set_cons_zero, List.set_cons_succ]
  refine doneH (i := 11) rfl (by kernel_rfl) (by rfl) (fun K hK => ?_)
  have HK : Hid _ := hK
  clear hK
  go_simp
  refine (hpk _).mono ?_
  rintro e w9 ⟨rfl, hw9⟩
  subst hw9
  clear hHeld
  refine HK.out _ _ ⟨⟨b0, o1⟩, hcc⟩ (fun hHeld => ?_)
  clear HK K
  try simp only [Act.put, List.setIfInBounds_toArray, List.set_cons_zero, List.set_cons_succ]
  refine takeH (i := 12) (v := ?vv12) rfl (by kernel_rfl) (by kernel_rfl) (by kernel_rfl) (fun _ _ _ h => h) (Or.inl ⟨by rfl, ?hy12⟩) (by assumption) ?rest12
  case hy12 => (intro w hSw; (try dsimp only at hSw); go_simp; try with_reducible rfl)
  try simp only [Act.put, List.setIfInBounds_toArray, List.set_cons_zero, List.set_cons_succ]
  refine takeH (i := 13) (v := ?vv13) rfl (by kernel_rfl) (by kernel_rfl) (by kernel_rfl) (fun _ _ _ h => h) (Or.inl ⟨by rfl, ?hy13⟩) (by assumption) ?rest13
  case hy13 => (intro w hSw; (try dsimp only at hSw); go_simp; try with_reducible rfl)
  try simp only [Act.put, List.setIfInBounds_toArray, List.set_cons_zero, List.set_cons_succ]
  refine takeH (i := 14) (v := ?vv14) rfl (by kernel_rfl) (by kernel_rfl) (by kernel_rfl) (fun _ _ _ h => h) (Or.inl ⟨by rfl, ?hy14⟩) (by assumption) ?rest14
  case hy14 => (intro w hSw; (try dsimp only at hSw); go_simp; try with_reducible rfl)
  try simp only [Act.put, List.setIfInBounds_toArray, List.set_cons_zero, List.set_cons_succ]
  clear hHeld hpk
  refine wpAnyH_done (by kernel_rfl) ?_ _
  have hst := HH1.out.belowC (col' := col1) (Below.refl w1.heap.size w1).drew (fun _ _ => rfl)
  obtain ⟨W, hWd⟩ : ∃ W, w1.drew = W := ⟨_, rfl⟩
  have p0 : W.cell? ⟨n0, 0, none⟩ = some (I64 kd) := by rw [← hWd]; exact o0
  have p1 : W.cell? ⟨n0, 1, none⟩ = some (I64 k) := by rw [← hWd]; exact o1
  have p2 : W.cell? ⟨n0, 2, none⟩ = some (I64 a) := by rw [← hWd]; exact o2
  have p3 : W.cell? ⟨n0, 3, none⟩ = some (I64 b') := by rw [← hWd]; exact o3
  have p4 : W.cell? ⟨n0, 4, none⟩ = some (I64 c) := by rw [← hWd]; exact o4
  have p5 : W.cell? ⟨n0, 5, none⟩ = some (.slice pw wl.length cw) := by rw [← hWd]; exact o5
  rw [hWd] at hst ⊢
  clear o0 o1 o2 o3 o4 o5 b0 hcc hWd HH1
  obtain ⟨vc', hvce⟩ : ∃ vc', Value.slice (some ⟨gC, 0, none⟩) C.length cC = vc' := ⟨_, rfl⟩
  rw [hvce] at hst
  clear hvce
  obtain ⟨ps, vs, b, rb, S, R, hb⟩ := hst.crt ki (x, ws) hi
  dsimp only at hb
  have hT2 := hb.T.2.1
  have hW := okWs_of hb.okw
  by_cases e3 : kd = 3
  · subst e3
    have hju := justLawB_at _ x b rb S R ws ps vs W hb
    have hjl : (justL ws ps vs).length ≤ ps.length := justN_length ws ps vs ps.length
    go_wp2_with fail
    refine hju.mono ?_
    rintro e w2 ⟨⟨v, rfl, hrow⟩, hb2, hc2⟩
    clear hju
    have h2 := hst.called (col' := ext W.heap.size col1 6) hi hb rfl hb2 hc2 (fun _ hk => ext_lt hk)
    have how := ownW_at w0 w2 _ bw C vc' vi vg vl I G L h2 v _ ⟨_, row_lower hrow (Nat.zero_le _)⟩ (fun k hk => ⟨ext_ge (hrow.lt k hk).1, hst.ls.sI.noT (hrow.lt k hk).1 0⟩) (by omega) (by omega)
    go_wp2_with fail
    refine how.mono ?_
    rintro e w3 ⟨rfl, col3, vi3, J, h3, hJ⟩
    clear how
    go_wp2
    go_ret
    exact ⟨rfl, _, _, _, _, _, _, _, _, _, h3, by omega, by omega, by rw [List.length_append]; omega, by omega, by omega⟩
  have e3' : (kd == (3 : Int)) = false := beq_eq_false_iff_ne.2 e3
  by_cases e4 : kd = 4
  · subst e4
    have hju := finalLawB_at _ x b rb S R ws ps vs W hb
    have hjl := finalW_length ws ps vs
    go_wp2_with fail
    refine hju.mono ?_
    rintro e w2 ⟨⟨v, rfl, hrow⟩, hb2, hc2⟩
    clear hju
    have h2 := hst.called (col' := ext W.heap.size col1 6) hi hb rfl hb2 hc2 (fun _ hk => ext_lt hk)
    have how := ownW_at w0 w2 _ bw C vc' vi vg vl I G L h2 v _ ⟨_, row_lower hrow (Nat.zero_le _)⟩ (fun k hk => ⟨ext_ge (hrow.lt k hk).1, hst.ls.sI.noT (hrow.lt k hk).1 0⟩) (by omega) (by omega)
    go_wp2_with fail
    refine how.mono ?_
    rintro e w3 ⟨rfl, col3, vi3, J, h3, hJ⟩
    clear how
    go_wp2
    go_ret
    exact ⟨rfl, _, _, _, _, _, _, _, _, _, h3, by omega, by omega, by rw [List.length_append]; omega, by omega, by omega⟩
  have e4' : (kd == (4 : Int)) = false := beq_eq_false_iff_ne.2 e4
  by_cases e5 : kd = 5
  · subst e5
    have hju := guiltyLawB_at _ x b rb S R ws ps vs W hb
    have hjl := guiltL_length ws.length ps vs
    have hw12 := hW.le
    go_wp2_with fail
    refine hju.mono ?_
    rintro e w2 ⟨⟨v, rfl, hrow⟩, hb2, hc2⟩
    clear hju
    have h2 := hst.called (col' := ext W.heap.size col1 7) hi hb rfl hb2 hc2 (fun _ hk => ext_lt hk)
    have how := ownGuiltW_at w0 w2 _ bw C vc' vi vg vl I G L h2 v _ ⟨_, row_lower hrow (Nat.zero_le _)⟩ (fun k hk => ⟨ext_ge (hrow.lt k hk).1, hst.ls.sG.noT (hrow.lt k hk).1 0⟩) (by omega) (by omega)
    go_wp2_with fail
    refine how.mono ?_
    rintro e w3 ⟨rfl, col3, vg3, J, h3, hJ⟩
    clear how
    go_wp2
    go_ret
    exact ⟨rfl, _, _, _, _, _, _, _, _, _, h3, by omega, by omega, by omega, by rw [List.length_append]; omega, by omega⟩
  have e5' : (kd == (5 : Int)) = false := beq_eq_false_iff_ne.2 e5
  by_cases e6 : kd = 6
  · subst e6
    have hju := proofLawB_at _ x b rb S R ws ps vs a W hb
    go_wp2_with fail
    refine hju.mono ?_
    rintro e w2 ⟨⟨v, X, rfl, hLX, hXn, hXv⟩, hb2, hc2⟩
    clear hju
    have h2 := hst.called (col' := lcol W.heap.size col1 v) hi hb rfl hb2 hc2 (fun _ hk => lcol_lt hk)
    have how := ownLinksW_at w0 w2 _ bw C vc' vi vg vl I G L h2 v X (hLX.lower (Nat.zero_le _)) (fun k hk => ⟨lcol_row (hLX.row.lt k hk).1 hk, hst.ls.sL.noT (hLX.row.lt k hk).1 0⟩) (fun z hz k hk => ⟨lcol_each ((hLX.each z hz).lt k hk).1 (links_apart hLX hz hk), hst.ls.sI.noT ((hLX.each z hz).lt k hk).1 0⟩) hXn hXv (by omega) (by omega)
    clear hXv
    go_wp2_with fail
    refine how.mono ?_
    rintro e w3 ⟨rfl, col3, vi3, vl3, J, K, h3, hJ, hK, _, _, _, _⟩
    clear how
    go_wp2
    go_ret
    exact ⟨rfl, _, _, _, _, _, _, _, _, _, h3, by omega, by omega, by rw [List.length_append]; omega, by omega, by rw [List.length_append]; omega⟩
  have e6' : (kd == (6 : Int)) = false := beq_eq_false_iff_ne.2 e6
  by_cases e8 : kd = 8
  · subst e8
    have htr := tried_at w0 W col1 bw C vc' vi vg vl I G L hst ki x ws hi 8 k a b' c (.slice pw wl.length cw) ha hb' hI hG hL
    go_wp2_with fail
    refine htr.mono ?_
    rintro e w2 ⟨rfl, col2, vi2, vg2, vl2, I2, G2, L2, h2, l1, l2, l3⟩
    clear htr
    go_wp2
    go_ret
    exact ⟨rfl, _, _, _, _, _, _, _, _, _, h2, by omega, by omega, l1, l2, l3⟩
  have e8' : (kd == (8 : Int)) = false := beq_eq_false_iff_ne.2 e8
  by_cases e9 : kd ≤ 2
  · have hstp := step_at _ x ws ps vs kd k a b' c (.slice pw wl.length cw) W ⟨b, rb, S, R, hb⟩ e9
    go_wp2_with fail
    refine hstp.mono ?_
    rintro e w2 ⟨rfl, hA, hc2⟩
    clear hstp
    have h2 := hst.stepped hi hA hc2
    go_wp2
    go_ret
    exact ⟨rfl, _, _, _, _, _, _, _, _, _, h2, by omega, by omega, by omega, by omega, by omega⟩
  · have hstp := stepN_at x kd k a b' c (.slice pw wl.length cw) W (by omega)
    go_wp2_with fail
    refine hstp.mono ?_
    rintro e w2 ⟨rfl, hB2⟩
    clear hstp
    have h2 := hst.below hB2 0
    go_wp2
    go_ret
    exact ⟨rfl, _, _, _, _, _, _, _, _, _, h2, by omega, by omega, by omega, by omega, by omega⟩
end Go.Proofs.YtgebcnnenhgkcaaGreat
/- The law All. -/
namespace Go.Proofs.YtgebcnnenhgkcaaGreat
open Go.RowKit Go.Shelf

/-- What a step of the script holds. -/
structure OpFit (w : World) (y : OpD) : Prop where
  k : -9223372036854775808 ≤ y.k ∧ y.k ≤ 9223372036854775807
  a : -9223372036854775808 ≤ y.a ∧ y.a ≤ 9223372036854775807
  b : -9223372036854775808 ≤ y.b ∧ y.b ≤ 9223372036854775807
  wv : ∃ pw cw wl, y.wv = .slice pw wl.length cw ∧ IntsAt w pw wl ∧ (pw = none → cw = 0 ∧ wl = []) ∧ (wl.length + 3) * 8 ≤ 140737488355328

theorem AllSt.begin (w : World) : AllSt w ((w.alloc (.cells #[.slice none 0 0, .slice none 0 0, .slice none 0 0, .slice none 0 0] 56)).alloc (.cells #[I64 1, I64 1, I64 1] 3)) (fun k => if k = w.heap.size then 1 else 0) w.heap.size [] (.slice none 0 0) (.slice none 0 0) (.slice none 0 0) (.slice none 0 0) [] [] [] := by
  refine ⟨((Below.refl _ w).alloc (Nat.le_refl _) _).alloc (by simp) _, fun k hk => if_neg (by omega), ⟨?_, if_pos rfl, ⟨World.ownsRow_nil _ _ _ _, fun k e => (by cases e), fun k v e => (by simp at e)⟩, ⟨World.ownsRow_nil _ _ _ _, fun k e => (by cases e), fun k v e => (by simp at e)⟩, ⟨World.ownsRow_nil _ _ _ _, fun k e => (by cases e), fun k v e => (by simp at e)⟩⟩, World.ownsRow_nil _ _ _ _, fun k e => (by cases e), fun i c e => (by simp at e)⟩
  exact (Below.heap_alloc _ _ _ (by simp)).trans (heap_alloc_new w _)

set_option maxRecDepth 100000 in
set_option maxHeartbeats 4000000 in
theorem all_at (w : World) (sp : Option Addr) (sc : Nat) (ops : List OpD) (hops : OpsAt w sp ops) (hfit : ∀ y ∈ ops, OpFit w y) (hol : ops.length ≤ 1100000) :
    Calls Tryz.prog 6 #[.slice sp ops.length sc] w fun e w' => e = .returned (.bool true) ∧ Below w.heap.size w w' := by
  have hmd := madeW_at w _ _ w.heap.size [] _ _ _ _ [] [] [] (AllSt.begin w) (some ⟨w.heap.size + 1, 0, none⟩) 3 [1, 1, 1] (.inr ⟨w.heap.size + 1, 0, rfl, fun j hj => by
    have hn : ((w.alloc (.cells #[.slice none 0 0, .slice none 0 0, .slice none 0 0, .slice none 0 0] 56)).alloc (.cells #[I64 1, I64 1, I64 1] 3)).heap[w.heap.size + 1]? = some (.cells #[I64 1, I64 1, I64 1] 3 (0, 0)) := by
      have h9 := heap_alloc_new (w.alloc (.cells #[.slice none 0 0, .slice none 0 0, .slice none 0 0, .slice none 0 0] 56)) (.cells #[I64 1, I64 1, I64 1] 3)
      simpa using h9
    rw [Nat.zero_add, cell_of_heap hn]
    match j, hj with
    | 0, _ => rfl
    | 1, _ => rfl
    | 2, _ => rfl
    | k + 3, hk => simp at hk; omega⟩) (fun e => (by cases e)) (by decide) (by decide)
  have HF : Hid (∀ y ∈ ops, OpFit w y) := hfit
  clear hfit
  obtain ⟨bw, hbw⟩ : ∃ bw, w.heap.size = bw := ⟨_, rfl⟩
  go_enter Tryz.func6, Tryz.ntmps6
  clear hbw
  go_wp2_with fail
  refine hmd.mono ?_
  rintro e w1 ⟨rfl, col1, C1, vc1, h1, _, _, hC1⟩
  clear hmd
  have hC1' : C1.length = 1 := hC1 (by decide)
  clear hC1
  obtain ⟨pc, cc, hvc⟩ := row_slice h1.crow
  have b0 : w1.cell? ⟨w.heap.size, 0, none⟩ = some (.slice pc 1 cc) := by rw [cell_of_heap h1.ls.hb, hvc, hC1']; rfl
  go_wp2_with fail
  go_loopw [5] (fun ii wr => ∃ (j : Nat) (col : Nat → Nat) (C : List (Nat × List Int)) (vc vi vg vl : Value) (I G L : List Value), j ≤ ops.length ∧ ii = .int .i64 j ∧ AllSt w wr col w.heap.size C vc vi vg vl I G L ∧ 0 < C.length ∧ C.length ≤ 1 + j ∧ I.length ≤ 410 * j ∧ G.length ≤ 10 * j ∧ L.length ≤ 20 * j) (fun ii _ => ops.length - (intOf ii).toNat)
  case atStart => exact ⟨0, _, _, _, _, _, _, _, _, _, by omega, rfl, h1, by omega, by omega, by simp, by simp, by simp⟩
  case round =>
    clear h1 b0 hvc hC1'
    obtain ⟨j, col, C, vc, vi, vg, vl, I, G, L, hj, rfl, h, hC0, hCl, hI, hG, hL⟩ := hrel
    by_cases hlt : j < ops.length
    · have hlt' : (j : Int) < (ops.length : Int) := by omega
      rcases hops with rfl | ⟨g, o, rfl, hcs⟩
      · simp at hlt
      obtain ⟨y, hy⟩ : ∃ y, ops[j]? = some y := ⟨_, List.getElem?_eq_getElem hlt⟩
      obtain ⟨c0, c1, c2, c3, c4, c5⟩ := hcs j y hy
      have hgl := World.block_lt_of_cell? w _ c0
      obtain ⟨fk, fa, fb, pw, cw, wl, hwv, hwi, hwn, hwb⟩ := HF.out y (List.mem_of_getElem? hy)
      have d0 := (h.B.cell (p := ⟨g, o + j * 6, none⟩) hgl).trans c0
      have d1 := (h.B.cell (p := ⟨g, o + j * 6 + 1, none⟩) hgl).trans c1
      have d2 := (h.B.cell (p := ⟨g, o + j * 6 + 2, none⟩) hgl).trans c2
      have d3 := (h.B.cell (p := ⟨g, o + j * 6 + 3, none⟩) hgl).trans c3
      have d4 := (h.B.cell (p := ⟨g, o + j * 6 + 4, none⟩) hgl).trans c4
      have d5 := (h.B.cell (p := ⟨g, o + j * 6 + 5, none⟩) hgl).trans c5
      rw [hwv] at d5
      have hst := stepW_at w wr col w.heap.size C vc vi vg vl I G L h y.kd y.k y.a y.b y.c pw cw wl fk fa fb hwi hwn hwb hC0 (by omega) (by omega) (by omega) (by omega)
      clear c0 c1 c2 c3 c4 c5 hwi hwn hwb hwv hy hcs
      go_wp2_with fail
      refine hst.mono ?_
      rintro e w2 ⟨rfl, col2, C2, vc2, vi2, vg2, vl2, I2, G2, L2, h2, l1, l2, l3, l4, l5⟩
      clear hst d0 d1 d2 d3 d4 d5
      have hsl := still_at w2 col2 w.heap.size vc2 vi2 vg2 vl2 I2 G2 L2 h2.ls (by omega) (by omega) (by omega)
      go_wp2_with fail
      refine hsl.mono ?_
      rintro e w3 ⟨rfl, hB3⟩
      clear hsl
      have h3 := h2.below hB3 0
      clear h h2
      go_wp2
      go_roundw
      case rel => exact ⟨j + 1, _, _, _, _, _, _, _, _, _, by omega, by go_num, h3, by omega, by omega, by omega, by omega, by omega⟩
      case measure => simp [intOf]; omega
    · have hB := h.B
      clear h
      go_wp2
      go_ret
      exact ⟨rfl, hB⟩
end Go.Proofs.YtgebcnnenhgkcaaGreat
