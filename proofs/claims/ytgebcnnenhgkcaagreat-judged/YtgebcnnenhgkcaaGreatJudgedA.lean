/- The statements without the document's answer: the votes of a proof: Tree.has, by, among. -/
import Derived.Test.YtgebcnnenhgkcaaGreatKeepD
import Derived.Test.YtgebcnnenhgkcaaGreatKeepE
import Derived.Test.YtgebcnnenhgkcaaGreatPureG
import Derived.Test.YtgebcnnenhgkcaaGreatJudgeF
namespace Go.Proofs.YtgebcnnenhgkcaaGreat
open Go.RowKit Go.Shelf

def byV (l : Lk) : List Vt := l.vs.map (fun v => ⟨v, l.s, l.t⟩)
/-- The votes that a proof shows. -/
def byL (L : List Lk) : List Vt := L.flatMap byV
theorem byL_append (a b : List Lk) : byL (a ++ b) = byL a ++ byL b := by simp [byL]
theorem mem_byL {L : List Lk} {y : Vt} : y ∈ byL L ↔ ∃ l ∈ L, y.s = l.s ∧ y.t = l.t ∧ y.v ∈ l.vs := by
  unfold byL byV
  simp only [List.mem_flatMap, List.mem_map]
  constructor
  · rintro ⟨l, hl, v, hv, rfl⟩; exact ⟨l, hl, rfl, rfl, hv⟩
  · rintro ⟨l, hl, h1, h2, h3⟩; obtain ⟨v, s, t⟩ := y; exact ⟨l, hl, v, h3, by simp at h1 h2; rw [h1, h2]⟩
theorem byL_length {L : List Lk} (h : ∀ l ∈ L, l.vs.length ≤ 12) : (byL L).length ≤ 12 * L.length := by
  induction L with
  | nil => simp [byL]
  | cons l r ih =>
    have e : byL (l :: r) = byV l ++ byL r := by simp [byL]
    have h1 := ih (fun x hx => h x (List.mem_cons_of_mem _ hx))
    have h2 := h l (List.mem_cons_self ..)
    rw [e]
    simp only [byV, List.length_append, List.length_map, List.length_cons]
    omega

set_option maxRecDepth 100000 in
set_option maxHeartbeats 4000000 in
theorem kHas_at (bt gT capT c : Nat) (p : Option Addr) (ps : List Int) (X : List LkV) (hT : Tree ps) (w : World) (hA : TreeAt w bt 0 gT capT ps) (hL : LkAt w p X) (hm : X.length ≤ maxLen) (hb : ∀ x ∈ X, (0 ≤ x.1.s ∧ x.1.s < ps.length) ∧ 0 ≤ x.1.t ∧ x.1.t < ps.length) :
    Calls Tryz.prog 26 #[.pointer (some ⟨bt, 0, none⟩), .slice p X.length c] w fun e w' => e = .returned (.bool true) ∧ Below w.heap.size w w' := by
  have hm' : X.length ≤ 9223372036854775807 := by unfold maxLen at hm; omega
  have hT2 := hT.2.1
  have HB : Hid (∀ x ∈ X, (0 ≤ x.1.s ∧ x.1.s < ps.length) ∧ 0 ≤ x.1.t ∧ x.1.t < ps.length) := hb
  clear hb hm
  go_enter Tryz.func26, Tryz.ntmps26
  go_wp2_with fail
  go_loopw [5] (fun ii wr => ∃ k : Nat, k ≤ X.length ∧ ii = .int .i64 k ∧ Below w.heap.size w wr) (fun ii _ => X.length - (intOf ii).toNat)
  case atStart => exact ⟨0, by omega, rfl, Below.refl _ _⟩
  case round =>
    obtain ⟨k, hk, rfl, hB⟩ := hrel
    by_cases hlt : k < X.length
    · have hlt' : (k : Int) < (X.length : Int) := by omega
      obtain ⟨x, hx⟩ : ∃ x, X[k]? = some x := ⟨_, List.getElem?_eq_getElem hlt⟩
      rcases hL.at' with e | ⟨g, o, rfl, hcs⟩
      · rw [e] at hlt; simp at hlt
      obtain ⟨v0, v1, _⟩ := hcs k x hx
      have hgl := World.block_lt_of_cell? w _ v0
      have c0 := (hB.cell (p := ⟨g, o + k * 3, none⟩) hgl).trans v0
      have c1 := (hB.cell (p := ⟨g, o + k * 3 + 1, none⟩) hgl).trans v1
      have hAr : TreeAt wr bt 0 gT capT ps := hA.below hB hA.lt_b (hA.lt_g hT.1)
      have hct := hAr.pv
      obtain ⟨⟨hx0, hx1⟩, hy0, hy1⟩ := HB.out x (List.mem_of_getElem? hx)
      obtain ⟨⟨s, t, V⟩, vx⟩ := x
      dsimp only at c0 c1 hx0 hx1 hy0 hy1
      have b1 : ¬ s < 0 := by omega
      have b2 : ¬ s ≥ (ps.length : Int) := by omega
      have b3 : ¬ t < 0 := by omega
      have b4 : ¬ t ≥ (ps.length : Int) := by omega
      have d1 : decide (s < 0) = false := decide_eq_false b1
      have d2 : decide (s ≥ (ps.length : Int)) = false := decide_eq_false b2
      have d3 : decide (t < 0) = false := decide_eq_false b3
      have d4 : decide (t ≥ (ps.length : Int)) = false := decide_eq_false b4
      clear hcs hx v0 v1
      go_wp2_with fail
      go_quiet (fail)
      go_wp2
      go_roundw
      case rel => exact ⟨k + 1, by omega, by go_num, below_drewN hB _⟩
      case measure => simp [intOf]; omega
    · go_wp2
      go_ret
      exact ⟨rfl, hB⟩

set_option maxRecDepth 100000 in
set_option maxHeartbeats 4000000 in
theorem among_at (p : Option Addr) (c : Nat) (vs : List Vt) (x : Vt) (w : World) (hV : VLies w p vs) (hl : vs.length ≤ 2000) (hx : x ∈ vs) :
    Calls Tryz.prog 30 #[.slice p vs.length c, x.val] w fun e w' => e = .returned (.bool true) ∧ Below w.heap.size w w' := by
  have HX : Hid (x ∈ vs) := hx
  clear hx
  go_enter Tryz.func30, Tryz.ntmps30
  go_wp2_with fail
  obtain ⟨W, hW'⟩ : ∃ W, w.alloc (.cells #[I64 x.v, I64 x.s, I64 x.t] 47) = W := ⟨_, rfl⟩
  have hBW : Below w.heap.size w W := by rw [← hW']; exact (Below.refl _ w).alloc (Nat.le_refl _) _
  have hWo : W.heap[w.heap.size]? = some (.cells #[I64 x.v, I64 x.s, I64 x.t] 47 (0, 0)) := by rw [← hW']; exact heap_alloc_new w _
  have hWz : W.heap.size = w.heap.size + 1 := by rw [← hW']; simp
  obtain ⟨n, hn⟩ : ∃ n, w.heap.size = n := ⟨_, rfl⟩
  rw [hW', hn]
  rw [hn] at hWo hWz hBW
  have HN : Hid (w.heap.size = n) := hn
  clear hW' hn
  have d0 : W.cell? ⟨n, 0, none⟩ = some (I64 x.v) := by rw [cell_of_heap hWo]; rfl
  have d1 : W.cell? ⟨n, 1, none⟩ = some (I64 x.s) := by rw [cell_of_heap hWo]; rfl
  have d2 : W.cell? ⟨n, 2, none⟩ = some (I64 x.t) := by rw [cell_of_heap hWo]; rfl
  clear hWo
  go_loopw [5] (fun ii wr => ∃ k : Nat, k ≤ vs.length ∧ ii = .int .i64 k ∧ Hid (∀ j, j < k → vs[j]? ≠ some x) ∧ Below (n + 1) W wr) (fun ii _ => vs.length - (intOf ii).toNat)
  case atStart => exact ⟨0, by omega, rfl, fun j h => by omega, Below.refl _ W⟩
  case round =>
    obtain ⟨k, hk, rfl, HK, hB⟩ := hrel
    have g0 : wr.cell? ⟨n, 0, none⟩ = some (I64 x.v) := (hB.cell (p := ⟨n, 0, none⟩) (by simp)).trans d0
    have g1 : wr.cell? ⟨n, 1, none⟩ = some (I64 x.s) := (hB.cell (p := ⟨n, 1, none⟩) (by simp)).trans d1
    have g2 : wr.cell? ⟨n, 2, none⟩ = some (I64 x.t) := (hB.cell (p := ⟨n, 2, none⟩) (by simp)).trans d2
    by_cases hlt : k < vs.length
    · have hlt' : (k : Int) < (vs.length : Int) := by omega
      rcases hV with rfl | ⟨gV, rfl, hV⟩
      · simp at hlt
      obtain ⟨y, hy⟩ : ∃ y, vs[k]? = some y := ⟨_, List.getElem?_eq_getElem hlt⟩
      have hvl2 := VCells.lt hV (by omega)
      have hn := HN.out
      obtain ⟨v0, v1, v2⟩ := (hV.below hBW (by omega)).below hB (by omega) k y hy
      have HY : Hid (vs[k]? = some y) := hy
      clear hy hn
      have heq1 := vote_eql y x
      cases hxa : y.is x
      · have HK' : Hid (∀ j, j < k + 1 → vs[j]? ≠ some x) := fun j hj hg => by
          by_cases e : j = k
          · subst e
            rw [HY.out] at hg
            injection hg with hg
            rw [Vt.is_iff.2 hg] at hxa
            cases hxa
          · exact HK.out j (by omega) hg
        go_wp2
        go_quiet (fail)
        go_wp2
        go_roundw
        case rel => exact ⟨k + 1, by omega, by go_num, HK'.out, below_drewN hB _⟩
        case measure => simp [intOf]; omega
      · go_wp2
        go_quiet (fail)
        go_wp2
        go_ret
        exact ⟨rfl, by rw [HN.out]; exact hBW.trans ((below_drewN hB _).mono (by omega))⟩
    · exfalso
      obtain ⟨j, hj⟩ := List.mem_iff_getElem?.1 HX.out
      exact HK.out j (by have := (List.getElem?_eq_some_iff.1 hj).1; omega) hj

set_option maxRecDepth 100000 in
set_option maxHeartbeats 8000000 in
theorem by_at (p : Option Addr) (c : Nat) (X : List LkV) (w : World) (hL : LkAt w p X) (hn : X.length ≤ 40) (hv : ∀ x ∈ X, x.1.vs.length ≤ 12) :
    Calls Tryz.prog 28 #[.slice p X.length c] w fun e w' => (∃ v, e = .returned v ∧ w'.ownsRow w.heap.size 47 3 v (byL (X.map (fun x => x.1))).length (vtRow (byL (X.map (fun x => x.1))))) ∧ Below w.heap.size w w' := by
  obtain ⟨i0, hi, hz0, hz1, hz2⟩ := info_parts info_vote
  have HV : Hid (∀ x ∈ X, x.1.vs.length ≤ 12) := hv
  have HLN : Hid (∀ k, (byL ((X.take k).map (fun x => x.1))).length ≤ 12 * X.length) := fun k => by
    have h1 := byL_length (L := (X.take k).map (fun x => x.1)) (fun l hl => by
      obtain ⟨x, hx, rfl⟩ := List.mem_map.1 hl
      exact hv x (List.mem_of_mem_take hx))
    simp only [List.length_map, List.length_take] at h1
    omega
  clear hv
  go_enter Tryz.func28, Tryz.ntmps28
  go_wp2_with fail
  go_loopw [3, 4] (fun vo ii wr => ∃ k : Nat, k ≤ X.length ∧ ii = .int .i64 k ∧ Below w.heap.size w wr ∧ wr.ownsRow w.heap.size 47 3 vo (byL ((X.take k).map (fun x => x.1))).length (vtRow (byL ((X.take k).map (fun x => x.1))))) (fun _ ii _ => X.length - (intOf ii).toNat)
  case atStart => exact ⟨0, by omega, rfl, Below.refl _ _, World.ownsRow_nil _ _ _ _⟩
  case round =>
    obtain ⟨k, hk, rfl, hB, hrow⟩ := hrel
    by_cases hlt : k < X.length
    · have hlt' : (k : Int) < (X.length : Int) := by omega
      obtain ⟨x, hx⟩ : ∃ x, X[k]? = some x := ⟨_, List.getElem?_eq_getElem hlt⟩
      rcases hL.at' with e | ⟨g, o, rfl, hcs⟩
      · rw [e] at hlt; simp at hlt
      have hxm := List.mem_of_getElem? hx
      obtain ⟨v0, v1, v2⟩ := hcs k x hx
      have hgl := World.block_lt_of_cell? w _ v0
      obtain ⟨pv, cv, hxv, hiv, hvm⟩ := hL.vs x hxm
      have hv12 := HV.out x hxm
      have HT1 : Hid (byL ((X.take (k + 1)).map (fun x => x.1)) = byL ((X.take k).map (fun x => x.1)) ++ byV x.1) := by
        show _ = _
        rw [List.take_add_one, List.map_append, byL_append, hx]
        simp [byL]
      obtain ⟨⟨s, t, V⟩, vx⟩ := x
      dsimp only at v0 v1 v2 hxv hiv hvm hv12 HT1
      subst hxv
      have hln := HLN.out k
      obtain ⟨A, hA⟩ : ∃ A, byL ((X.take k).map (fun x => x.1)) = A := ⟨_, rfl⟩
      rw [hA] at hrow HT1 hln
      clear hA hcs hx hxm
      go_wp2_with fail
      go_loopw [3, 5] (fun vo jj wr => ∃ q : Nat, q ≤ V.length ∧ jj = .int .i64 q ∧ Below w.heap.size w wr ∧ wr.ownsRow w.heap.size 47 3 vo (A ++ (V.take q).map (fun v => Vt.mk v s t)).length (vtRow (A ++ (V.take q).map (fun v => Vt.mk v s t)))) (fun _ jj _ => V.length - (intOf jj).toNat)
      case atStart => exact ⟨0, by omega, rfl, hB, by simpa using hrow⟩
      case round =>
        clear hB hrow
        obtain ⟨q, hq, rfl, hB, hrow⟩ := hrel
        have x0 := (hB.cell (p := ⟨g, o + k * 3, none⟩) hgl).trans v0
        have x1 := (hB.cell (p := ⟨g, o + k * 3 + 1, none⟩) hgl).trans v1
        have x2 := (hB.cell (p := ⟨g, o + k * 3 + 2, none⟩) hgl).trans v2
        by_cases hql : q < V.length
        · have hql' : (q : Int) < (V.length : Int) := by omega
          rcases hiv with e | ⟨gv, ov, rfl, hcv⟩
          · rw [e] at hql; simp at hql
          obtain ⟨z, hz⟩ : ∃ z, V[q]? = some z := ⟨_, List.getElem?_eq_getElem hql⟩
          have y0 : w.cell? ⟨gv, ov + q, none⟩ = some (I64 z) := by have h9 := hcv q hql; rw [hz] at h9; exact h9
          have hgvl := World.block_lt_of_cell? w _ y0
          have x3 := (hB.cell (p := ⟨gv, ov + q, none⟩) hgvl).trans y0
          have HT2 : Hid (A ++ (V.take (q + 1)).map (fun v => Vt.mk v s t) = A ++ (V.take q).map (fun v => Vt.mk v s t) ++ [Vt.mk z s t]) := by
            show _ = _
            rw [List.take_add_one, hz]
            simp
          obtain ⟨C, hC⟩ : ∃ C, A ++ (V.take q).map (fun v => Vt.mk v s t) = C := ⟨_, rfl⟩
          have hCl : C.length ≤ 500 := by rw [← hC]; simp; omega
          rw [hC] at hrow HT2
          clear hC hz hcv
          obtain ⟨po, co, hvo⟩ := row_slice hrow
          subst hvo
          go_wp2_with fail
          refine wp_region_held_drew (S := fun w' => (w'.cell? ⟨g, o + k * 3, none⟩ = some (I64 s) ∧ w'.cell? ⟨g, o + k * 3 + 1, none⟩ = some (I64 t)) ∧ w'.cell? ⟨g, o + k * 3 + 2, none⟩ = some (.slice (some ⟨gv, ov, none⟩) V.length cv) ∧ w'.cell? ⟨gv, ov + q, none⟩ = some (I64 z)) (by kernel_rfl) ⟨⟨x0, x1⟩, x2, x3⟩ (fun hHeld => ?_)
          refine takeH (i := 0) (v := ?vv1) rfl (by kernel_rfl) (by kernel_rfl) (by kernel_rfl) (fun _ _ _ h => h) (Or.inl ⟨by rfl, ?hy1⟩) (by assumption) ?rest1
          case hy1 => (intro w hSw; (try dsimp only at hSw); go_simp; try with_reducible rfl)
          try simp only [Act.put, List.setIfInBounds_toArray, List.set_cons_zero, List.set_cons_succ]
          refine takeH (i := 1) (v := ?vv2) rfl (by kernel_rfl) (by kernel_rfl) (by kernel_rfl) (fun _ _ _ h => h) (Or.inl ⟨by rfl, ?hy2⟩) (by assumption) ?rest2
          case hy2 => (intro w hSw; (try dsimp only at hSw); go_simp; try with_reducible rfl)
          try simp only [Act.put, List.setIfInBounds_toArray, List.set_cons_zero, List.set_cons_succ]
          refine takeH (i := 2) (v := ?vv3) rfl (by kernel_rfl) (by kernel_rfl) (by kernel_rfl) (fun _ _ _ h => h) (Or.inl ⟨by rfl, ?hy3⟩) (by assumption) ?rest3
          case hy3 => (intro w hSw; (try dsimp only at hSw); go_simp; try with_reducible rfl)
          try simp only [Act.put, List.setIfInBounds_toArray, List.set_cons_zero, List.set_cons_succ]
          refine takeH (i := 3) (v := ?vv4) rfl (by kernel_rfl) (by kernel_rfl) (by kernel_rfl) (fun _ _ _ h => h) (Or.inl ⟨by rfl, ?hy4⟩) (by assumption) ?rest4
          case hy4 => (intro w hSw; (try dsimp only at hSw); go_simp; try with_reducible rfl)
          try simp only [Act.put, List.setIfInBounds_toArray, List.set_cons_zero, List.set_cons_succ]
          refine takeH (i := 4) (v := ?vv5) rfl (by kernel_rfl) (by kernel_rfl) (by kernel_rfl) (fun _ _ _ h => h) (Or.inl ⟨by rfl, ?hy5⟩) (by assumption) ?rest5
          case hy5 => (intro w hSw; (try dsimp only at hSw); go_simp; try with_reducible rfl)
          try simp only [Act.put, List.setIfInBounds_toArray, List.set_cons_zero, List.set_cons_succ]
          refine takeH (i := 5) (v := ?vv6) rfl (by kernel_rfl) (by kernel_rfl) (by kernel_rfl) (fun _ _ _ h => h) (Or.inl ⟨by rfl, ?hy6⟩) (by assumption) ?rest6
          case hy6 => (intro w hSw; (try dsimp only at hSw); go_simp; try with_reducible rfl)
          try simp only [Act.put, List.setIfInBounds_toArray, List.set_cons_zero, List.set_cons_succ]
          refine takeH (i := 6) (v := ?vv7) rfl (by kernel_rfl) (by kernel_rfl) (by kernel_rfl) (fun _ _ _ h => h) (Or.inl ⟨by rfl, ?hy7⟩) (by assumption) ?rest7
          case hy7 => (intro w hSw; (try dsimp only at hSw); go_simp; try with_reducible rfl)
          try simp only [Act.put, List.setIfInBounds_toArray, List.set_cons_zero, List.set_cons_succ]
          refine takeH (i := 7) (v := ?vv8) rfl (by kernel_rfl) (by kernel_rfl) (by kernel_rfl) (fun _ _ _ h => h) (Or.inl ⟨by rfl, ?hy8⟩) (by assumption) ?rest8
          case hy8 => (intro w hSw; (try dsimp only at hSw); go_simp; try with_reducible rfl)
          try simp only [Act.put, List.setIfInBounds_toArray, List.set_cons_zero, List.set_cons_succ]
          refine takeH (i := 8) (v := ?vv9) rfl (by kernel_rfl) (by kernel_rfl) (by kernel_rfl) (fun _ _ _ h => h) (Or.inl ⟨by rfl, ?hy9⟩) (by assumption) ?rest9
          case hy9 => (intro w hSw; (try dsimp only at hSw); go_simp; try with_reducible rfl)
          try simp only [Act.put, List.setIfInBounds_toArray, List.set_cons_zero, List.set_cons_succ]
          refine takeH (i := 9) (v := ?vv10) rfl (by kernel_rfl) (by kernel_rfl) (by kernel_rfl) (fun _ _ _ h => h) (Or.inl ⟨by rfl, ?hy10⟩) (by assumption) ?rest10
          case hy10 => (intro w hSw; (try dsimp only at hSw); go_simp; try with_reducible rfl)
          try simp only [Act.put, List.setIfInBounds_toArray, List.set_cons_zero, List.set_cons_succ]
          refine takeH (i := 10) (v := ?vv11) rfl (by kernel_rfl) (by kernel_rfl) (by kernel_rfl) (fun _ _ _ h => h) (Or.inl ⟨by rfl, ?hy11⟩) (by assumption) ?rest11
          case hy11 => (intro w hSw; (try dsimp only at hSw); go_simp; try with_reducible rfl)
          try simp only [Act.put, List.setIfInBounds_toArray, List.set_cons_zero, List.set_cons_succ]
          refine takeH (i := 11) (v := ?vv12) rfl (by kernel_rfl) (by kernel_rfl) (by kernel_rfl) (fun _ _ _ h => h) (Or.inl ⟨by rfl, ?hy12⟩) (by assumption) ?rest12
          case hy12 => (intro w hSw; (try dsimp only at hSw); go_simp; try with_reducible rfl)
          try simp only [Act.put, List.setIfInBounds_toArray, List.set_cons_zero, List.set_cons_succ]
          refine takeH (i := 12) (v := ?vv13) rfl (by kernel_rfl) (by kernel_rfl) (by kernel_rfl) (fun _ _ _ h => h) (Or.inl ⟨by rfl, ?hy13⟩) (by assumption) ?rest13
          case hy13 => (intro w hSw; (try dsimp only at hSw); go_simp; try with_reducible rfl)
          try simp only [Act.put, List.setIfInBounds_toArray, List.set_cons_zero, List.set_cons_succ]
          refine takeH (i := 13) (v := ?vv14) rfl (by kernel_rfl) (by kernel_rfl) (by kernel_rfl) (fun _ _ _ h => h) (Or.inl ⟨by rfl, ?hy14⟩) (by assumption) ?rest14
          case hy14 => (intro w hSw; (try dsimp only at hSw); go_simp; try with_reducible rfl)
          try simp only [Act.put, List.setIfInBounds_toArray, List.set_cons_zero, List.set_cons_succ]
          refine takeH (i := 14) (v := ?vv15) rfl (by kernel_rfl) (by kernel_rfl) (by kernel_rfl) (fun _ _ _ h => h) (Or.inl ⟨by rfl, ?hy15⟩) (by assumption) ?rest15
          case hy15 => (intro w hSw; (try dsimp only at hSw); go_simp; try with_reducible rfl)
          try simp only [Act.put, List.setIfInBounds_toArray, List.set_cons_zero, List.set_cons_succ]
          refine takeH (i := 15) (v := ?vv16) rfl (by kernel_rfl) (by kernel_rfl) (by kernel_rfl) (fun _ _ _ h => h) (Or.inl ⟨by rfl, ?hy16⟩) (by assumption) ?rest16
          case hy16 => (intro w hSw; (try dsimp only at hSw); go_simp; try with_reducible rfl)
          try simp only [Act.put, List.setIfInBounds_toArray, List.set_cons_zero, List.set_cons_succ]
          refine takeH (i := 16) (v := ?vv17) rfl (by kernel_rfl) (by kernel_rfl) (by kernel_rfl) (fun _ _ _ h => h) (Or.inl ⟨by rfl, ?hy17⟩) (by assumption) ?rest17
          case hy17 => (intro w hSw; (try dsimp only at hSw); go_simp; try with_reducible rfl)
          try simp only [Act.put, List.setIfInBounds_toArray, List.set_cons_zero, List.set_cons_succ]
          refine takeH (i := 17) (v := ?vv18) rfl (by kernel_rfl) (by kernel_rfl) (by kernel_rfl) (fun _ _ _ h => h) (Or.inl ⟨by rfl, ?hy18⟩) (by assumption) ?rest18
          case hy18 => (intro w hSw; (try dsimp only at hSw); go_simp; try with_reducible rfl)
          try simp only [Act.put, List.setIfInBounds_toArray, List.set_cons_zero, List.set_cons_succ]
          refine takeH (i := 18) (v := ?vv19) rfl (by kernel_rfl) (by kernel_rfl) (by kernel_rfl) (fun _ _ _ h => h) (Or.inl ⟨by rfl, ?hy19⟩) (by assumption) ?rest19
          case hy19 => (intro w hSw; (try dsimp only at hSw); go_simp; try with_reducible rfl)
          try simp only [Act.put, List.setIfInBounds_toArray, List.set_cons_zero, List.set_cons_succ]
          refine takeH (i := 19) (v := ?vv20) rfl (by kernel_rfl) (by kernel_rfl) (by kernel_rfl) (fun _ _ _ h => h) (Or.inl ⟨by rfl, ?hy20⟩) (by assumption) ?rest20
          case hy20 => (intro w hSw; (try dsimp only at hSw); go_simp; try with_reducible rfl)
          try simp only [Act.put, List.setIfInBounds_toArray, List.set_cons_zero, List.set_cons_succ]
          refine doneH (i := 20) rfl (by kernel_rfl) (by rfl) (fun K hK => ?_)
          have HK : Hid _ := hK
          clear hK
          go_simp
          obtain ⟨w4, hw4⟩ : ∃ w4, (wr.alloc (.cells #[I64 z, I64 s, I64 t] 47)).drew = w4 := ⟨_, rfl⟩
          have hnew : w4.heap[wr.heap.size]? = some (.cells #[I64 z, I64 s, I64 t] 47 (0, 0)) := by rw [← hw4]; exact heap_alloc_new wr _
          have hB4 : Below wr.heap.size wr w4 := by rw [← hw4]; exact ((Below.refl _ wr).alloc (Nat.le_refl _) _).drew
          have hz4 : w4.heap.size = wr.heap.size + 1 := by rw [← hw4]; simp
          rw [hw4]
          clear hw4 hHeld
          have hBw4 : Below w.heap.size w w4 := hB.trans (hB4.mono hB.size)
          have hrow4 := row_below hrow hB4 (Nat.le_refl _)
          obtain ⟨n3, hn3⟩ : ∃ n, wr.heap.size = n := ⟨_, rfl⟩
          rw [hn3] at hnew ⊢
          have e1 : (w4.cell? ⟨g, o + k * 3, none⟩ = some (I64 s) ∧ w4.cell? ⟨g, o + k * 3 + 1, none⟩ = some (I64 t)) ∧ w4.cell? ⟨g, o + k * 3 + 2, none⟩ = some (.slice (some ⟨gv, ov, none⟩) V.length cv) ∧ w4.cell? ⟨gv, ov + q, none⟩ = some (I64 z) := ⟨⟨(hBw4.cell (p := ⟨g, o + k * 3, none⟩) hgl).trans v0, (hBw4.cell (p := ⟨g, o + k * 3 + 1, none⟩) hgl).trans v1⟩, (hBw4.cell (p := ⟨g, o + k * 3 + 2, none⟩) hgl).trans v2, (hBw4.cell (p := ⟨gv, ov + q, none⟩) hgvl).trans y0⟩
          refine HK.out _ _ e1 (fun hHeld => ?_)
          clear HK K hn3 hz4 x0 x1 x2 x3
          try simp only [Act.put, List.setIfInBounds_toArray, List.set_cons_zero, List.set_cons_succ]
          have hlnx : ∀ j u, [I64 z, I64 s, I64 t][j]? = some u → w4.cell? ((⟨n3, 0, none⟩ : Addr).add j) = some u := fun j u hj => by
            rw [add_none, cell_of_heap hnew]
            simpa using hj
          refine doneH (i := 21) rfl (by kernel_rfl) (by rfl) (fun K hK => ?_)
          have HK : Hid _ := hK
          clear hK
          refine wp_append_lies _ _ _ _ (by rfl) w.heap.size 47 i0 (.agg #[I64 0, I64 0, I64 0]) 3 24 Tryz.underlying39 hi hz0 hz1 hz2 rfl (by omega) (.slice po C.length co) C.length (vtRow C) (by rfl) hrow4 ⟨n3, 0, none⟩ 1 1 [I64 z, I64 s, I64 t] (by rfl) (by rfl) hlnx (by simp [Value.oneCell']) (by omega) (by unfold maxLen; omega) (by omega) hBw4.size w4.heap.size rfl ?_
          intro gO cO w5 hown5 hgrow5 hat5 hlt5
          have hB5 : Below w.heap.size w4 w5 := ((Chg.refl (fun k => (Value.slice po C.length co).ownBlock = some k) w4).grown hgrow5 (fun k e => .inl e)).below hBw4.size (fun k hk hs => by have := (hrow4.lt k hs).1; omega)
          have hBw5 : Below w.heap.size w w5 := hBw4.trans hB5
          have e2 : (w5.cell? ⟨g, o + k * 3, none⟩ = some (I64 s) ∧ w5.cell? ⟨g, o + k * 3 + 1, none⟩ = some (I64 t)) ∧ w5.cell? ⟨g, o + k * 3 + 2, none⟩ = some (.slice (some ⟨gv, ov, none⟩) V.length cv) ∧ w5.cell? ⟨gv, ov + q, none⟩ = some (I64 z) := ⟨⟨(hBw5.cell (p := ⟨g, o + k * 3, none⟩) hgl).trans v0, (hBw5.cell (p := ⟨g, o + k * 3 + 1, none⟩) hgl).trans v1⟩, (hBw5.cell (p := ⟨g, o + k * 3 + 2, none⟩) hgl).trans v2, (hBw5.cell (p := ⟨gv, ov + q, none⟩) hgvl).trans y0⟩
          have HR5 : Hid (w5.ownsRow w.heap.size 47 3 (.slice (some ⟨gO, 0, none⟩) (C.length + 1) cO) (C ++ [Vt.mk z s t]).length (vtRow (C ++ [Vt.mk z s t]))) := by
            show World.ownsRow _ _ _ _ _ _ _
            rw [vtRow_append]
            simpa [vtRow, vtCells] using hown5
          clear hHeld hown5 hgrow5 hat5 hlt5 hrow4 hlnx hnew e1
          refine HK.out _ _ e2 (fun hHeld => ?_)
          clear HK K
          try simp only [Act.put, List.setIfInBounds_toArray, List.set_cons_zero, List.set_cons_succ]
          refine takeH (i := 22) (v := ?vv21) rfl (by kernel_rfl) (by kernel_rfl) (by kernel_rfl) (fun _ _ _ h => h) (Or.inl ⟨by rfl, ?hy21⟩) (by assumption) ?rest21
          case hy21 => (intro w hSw; (try dsimp only at hSw); go_simp; try with_reducible rfl)
          try simp only [Act.put, List.setIfInBounds_toArray, List.set_cons_zero, List.set_cons_succ]
          clear hHeld e2
          refine wpAnyH_done (by kernel_rfl) ?_ _
          go_wp2
          go_roundw
          case rel => exact ⟨q + 1, by omega, by go_num, hBw5, by rw [HT2.out]; exact HR5.out⟩
          case measure => simp [intOf]; omega
        · have hqe : q = V.length := by omega
          have hbe : A ++ V.map (fun v => Vt.mk v s t) = byL ((X.take (k + 1)).map (fun x => x.1)) := HT1.out.symm
          rw [hqe, List.take_length, hbe] at hrow
          have HR : Hid _ := hrow
          clear hrow hqe hbe
          go_wp2
          go_roundw
          case rel => exact ⟨k + 1, by omega, by go_num, hB, HR.out⟩
          case measure => simp [intOf]; omega
    · have hke : k = X.length := by omega
      rw [hke, List.take_length] at hrow
      have HR : Hid _ := hrow
      clear hrow hke
      go_wp2
      go_ret
      exact ⟨⟨_, rfl, HR.out⟩, hB⟩
end Go.Proofs.YtgebcnnenhgkcaaGreat
