/- votesOf, guiltOf, guilty, Guilty. -/
import Derived.Test.YtgebcnnenhgkcaaGreatB11
import Derived.Test.YtgebcnnenhgkcaaGreatB08
import Derived.Test.YtgebcnnenhgkcaaGreatB07
import Derived.Test.YtgebcnnenhgkcaaGreatB10
import Derived.Test.YtgebcnnenhgkcaaGreatB09
namespace Go.Proofs.YtgebcnnenhgkcaaGreat
open Go.RowKit Go.Shelf

theorem cells_one (w : World) (cs : Array Value) (t : TypeId) : ∀ j u, cs.toList[j]? = some u → (w.alloc (.cells cs t)).cell? ((⟨w.heap.size, 0, none⟩ : Addr).add j) = some u := by
  intro j u hj
  have h := heap_alloc_new w (.cells cs t)
  have e : ((⟨w.heap.size, 0, none⟩ : Addr).add j) = ⟨w.heap.size, j, none⟩ := by
    by_cases h0 : j = 0
    · subst h0; simp [Addr.add]
    · simp [Addr.add, h0]
  rw [e, cell_of_heap h]
  simpa using hj
theorem cells_two (w : World) (o : Obj) (cs : Array Value) (t : TypeId) : ∀ j u, cs.toList[j]? = some u → ((w.alloc o).alloc (.cells cs t)).cell? ((⟨w.heap.size + 1, 0, none⟩ : Addr).add j) = some u := by
  have := cells_one (w.alloc o) cs t
  simpa using this
theorem ofV_take {vs : List Vt} {k : Nat} {y : Vt} (u : Int) (h : vs[k]? = some y) : ofV (vs.take (k + 1)) u = ofV (vs.take k) u ++ (if y.v = u then [y] else []) := by
  rw [List.take_add_one, h]
  unfold ofV
  by_cases e : y.v = u
  · simp [List.filter_append, e]
  · have e' : (y.v == u) = false := by simpa using e
    simp [List.filter_append, e, e']

set_option maxRecDepth 100000 in
set_option maxHeartbeats 2000000 in
theorem votesOf_at (b : Nat) (S : Nat → Prop) (m : Int) (ws ps : List Int) (vs : List Vt) (wv pv vv : Value) (u : Int) (w : World) (h : CourtAt w b S m ws ps vs wv pv vv) (hl : vs.length ≤ 300) :
    Calls Tryz.prog 140 #[.pointer (some ⟨b, 0, none⟩), .int .i64 u] w fun e w' => (∃ v, e = .returned v ∧ w'.ownsRow w.heap.size 47 3 v (ofV vs u).length (vtRow (ofV vs u))) ∧ Below w.heap.size w w' := by
  have hbl := h.lt b h.inb
  have h4 := h.c4
  obtain ⟨vp, vc, hvv⟩ : ∃ vp vc, vv = .slice vp vs.length vc := by
    rcases h.vrow.2 with ⟨h', h''⟩ | ⟨g, cap, cur, h', _⟩
    · exact ⟨none, 0, by rw [h', h'']⟩
    · exact ⟨_, _, h'⟩
  subst hvv
  obtain ⟨i0, hi, hz0, hz1, hz2⟩ := info_parts info_vote
  go_enter Tryz.func140, Tryz.ntmps140
  go_wp2
  go_loopw [5, 13] (fun v i wr => ∃ k : Nat, k ≤ vs.length ∧ i = .int .i64 k ∧ Below w.heap.size w wr ∧ wr.ownsRow w.heap.size 47 3 v (ofV (vs.take k) u).length (vtRow (ofV (vs.take k) u))) (fun _ i _ => vs.length - (intOf i).toNat)
  case atStart => exact ⟨0, by omega, rfl, Below.refl _ _, World.ownsRow_nil _ _ _ _⟩
  case round =>
    obtain ⟨k, hk, rfl, hB, hown⟩ := hrel
    have hz := hB.size
    by_cases hlt : k < vs.length
    · obtain ⟨gv, cap, hgv, _, _, hc, _⟩ := vrow_open h.vrow (by omega)
      simp only [Value.slice.injEq, true_and] at hgv
      obtain ⟨rfl, rfl⟩ := hgv
      have hgl : gv < w.heap.size := VCells.lt hc (by omega)
      obtain ⟨y, hy⟩ : ∃ y, vs[k]? = some y := ⟨_, List.getElem?_eq_getElem hlt⟩
      obtain ⟨hc0, hc1, hc2⟩ := VCells.below hc hB hgl k y hy
      have HN : Hid _ := ofV_take u hy
      clear hc hy
      have hlt' : (k : Int) < (vs.length : Int) := by omega
      have hbr : b < wr.heap.size := by omega
      have hBn := hB.alloc hz (.cells #[I64 y.v, I64 y.s, I64 y.t] 47)
      obtain ⟨L, hL⟩ : ∃ L, ofV (vs.take k) u = L := ⟨_, rfl⟩
      have hnk : L.length ≤ k := by
        rw [← hL]; unfold ofV
        exact Nat.le_trans (List.length_filter_le _ _) (by simp; omega)
      rw [hL] at hown
      have HL : Hid (ofV (vs.take k) u = L) := hL
      clear hL
      by_cases e1 : y.v = u
      · have q1 : (y.v == u) = true := by simpa using e1
        have HE : Hid (ofV (vs.take (k + 1)) u = L ++ [y]) := by show _ = _; rw [HN.out, HL.out, if_pos e1]
        clear e1 HN
        have h63 : Hid (L.length + 1 ≤ maxLen) := by show _ ≤ _; unfold maxLen; omega
        go_wp2_with (at_builtin; refine wpList_append_own _ (by rfl) _ _ _ (by rfl) w.heap.size 47 i0 (.agg #[I64 0, I64 0, I64 0]) 3 24 Tryz.underlying39 hi hz0 hz1 hz2 rfl (by omega) _ L.length (vtRow L) (by rfl) ((hown.alloc _).alloc _) ⟨wr.heap.size + 1, 0, none⟩ 1 1 [I64 y.v, I64 y.s, I64 y.t] (by rfl) (by rfl) (cells_two _ _ #[I64 y.v, I64 y.s, I64 y.t] _) (by simp [Value.oneCell']) h63.out (by omega) (by simp; omega) ?_; intro v1 w1 hown1 hgrow1 hnil1)
        go_roundw
        case rel => exact ⟨k + 1, by omega, by go_num, (hBn.alloc (by simp; omega) _).grown hgrow1 (by simp; omega) (fun j e => (hown.lt j e).1), by rw [HE.out, vtRow_append, List.length_append]; exact hown1⟩
        case measure => simp [intOf]; omega
      · have q1 : (y.v == u) = false := by simpa using e1
        have HE : Hid (ofV (vs.take (k + 1)) u = L) := by show _ = _; rw [HN.out, HL.out, if_neg e1, List.append_nil]
        clear e1 HN
        go_wp2
        go_roundw
        case rel => exact ⟨k + 1, by omega, by go_num, hBn, by rw [HE.out]; exact hown.alloc _⟩
        case measure => simp [intOf]; omega
    · have hk' : k = vs.length := by omega
      subst hk'
      rw [List.take_length] at hown
      go_wp2
      go_ret
      exact ⟨⟨_, rfl, hown⟩, hB⟩

theorem VLiesO.below {w w' : World} {p : Option Addr} {vs : List Vt} (h : VLiesO w p vs) (hB : Below w.heap.size w w') : VLiesO w' p vs := by
  rcases h with e | ⟨g, o, e, hc⟩
  · exact .inl e
  · by_cases h0 : 0 < vs.length
    · exact .inr ⟨g, o, e, hc.below hB (hc.lt h0)⟩
    · exact .inl (List.length_eq_zero_iff.1 (by omega))
theorem pairF_drop {K : Vt → Vt → Int} {L : List Vt} {i : Nat} {x : Vt} (h : L[i]? = some x) : pairF K (L.drop i) = match (L.drop (i + 1)).find? (fun y => decide (K x y ≠ 0)) with | some y => some (K x y, x, y) | none => pairF K (L.drop (i + 1)) := by
  have hlt : i < L.length := (List.getElem?_eq_some_iff.1 h).1
  rw [List.drop_eq_getElem_cons hlt]
  have : L[i] = x := (List.getElem?_eq_some_iff.1 h).2
  rw [this]; rfl

set_option maxRecDepth 100000 in
set_option maxHeartbeats 4000000 in
theorem guiltOf_at (b : Nat) (S : Nat → Prop) (m : Int) (ws ps : List Int) (vs : List Vt) (wv pv vv : Value) (u : Int) (w : World) (h : CourtAt w b S m ws ps vs wv pv vv) (hT : Tree ps) (hl : vs.length ≤ 300) (hO : OkV ws.length ps vs) :
    Calls Tryz.prog 118 #[.pointer (some ⟨b, 0, none⟩), .int .i64 u] w fun e w' => e = .returned (.tuple #[guV (guiltV ps vs u), .bool (guiltV ps vs u).isSome]) ∧ Below w.heap.size w w' := by
  have hBa : Below w.heap.size w (w.alloc (.cells #[I64 0, I64 0, I64 0, I64 0, I64 0, I64 0, I64 0, I64 0] 84)) := (Below.refl _ w).alloc (Nat.le_refl _) _
  have ha := h.kept (Chg.of_below (fun _ => False) hBa) (fun _ _ hf => hf)
  go_enter Tryz.func118, Tryz.ntmps118
  go_wp2_with fail
  obtain ⟨wa, hwa⟩ : ∃ wa, w.alloc (.cells #[I64 0, I64 0, I64 0, I64 0, I64 0, I64 0, I64 0, I64 0] 84) = wa := ⟨_, rfl⟩
  have hra : wa.heap[w.heap.size]? = some (.cells #[I64 0, I64 0, I64 0, I64 0, I64 0, I64 0, I64 0, I64 0] 84 (0, 0)) := by rw [← hwa]; exact heap_alloc_new w _
  have hza : wa.heap.size = w.heap.size + 1 := by rw [← hwa]; simp
  rw [hwa] at ha hBa ⊢
  clear hwa
  refine (votesOf_at b S m ws ps vs _ _ _ u _ ha hl).mono ?_
  rintro e w1 ⟨⟨v, rfl, hrow⟩, hB1⟩
  obtain ⟨L, hL⟩ : ∃ L, ofV vs u = L := ⟨_, rfl⟩
  rw [hL] at hrow
  have HG : Hid (guiltV ps vs u = (pairF (kindI ps) L).map fun p => ⟨u, p.1, p.2.1, p.2.2⟩) := by show _ = _; unfold guiltV; rw [hL]
  have HM : Hid (∀ y ∈ L, y.v = u ∧ OkB ps y) := by
    show ∀ y ∈ L, _
    intro y hy
    rw [← hL] at hy
    unfold ofV at hy
    simp only [List.mem_filter, beq_iff_eq] at hy
    exact ⟨hy.2, okB_of hT hO hy.1⟩
  have hLl : L.length ≤ 300 := by rw [← hL]; exact Nat.le_trans (List.length_filter_le _ _) hl
  clear hL
  obtain ⟨vp, vc, hvv⟩ : ∃ vp vc, v = .slice vp L.length vc := by
    rcases hrow.2 with ⟨h', h''⟩ | ⟨g, cap, cur, h', _⟩
    · exact ⟨none, 0, by rw [h', h'']⟩
    · exact ⟨_, _, h'⟩
  subst hvv
  have h1 := ha.kept (Chg.of_below (fun _ => False) hB1) (fun _ _ hf => hf)
  have hr1 : w1.heap[w.heap.size]? = some (.cells #[I64 0, I64 0, I64 0, I64 0, I64 0, I64 0, I64 0, I64 0] 84 (0, 0)) := (hB1.block _ (by omega)).trans hra
  have hz1 := hB1.size
  have hBw : Below w.heap.size w w1 := hBa.trans (hB1.mono hBa.size)
  obtain ⟨g0, cap0, rfl, _, _, hcs0, _⟩ := row_open h1.prow hT.1
  have hA : TreeAt w1 b 3 g0 cap0 ps := ⟨h1.c3, hcs0⟩
  have hlb := hA.lt_b
  have hlg := hA.lt_g hT.1
  clear hcs0 hra
  go_wp2
  go_loopw [16] (fun ii wr => ∃ i : Nat, i ≤ L.length ∧ ii = .int .i64 i ∧ Below w1.heap.size w1 wr ∧ Hid (pairF (kindI ps) L = pairF (kindI ps) (L.drop i))) (fun ii _ => L.length - (intOf ii).toNat)
  case atStart => exact ⟨0, by omega, rfl, Below.refl _ _, by simp [Hid]⟩
  case round =>
    obtain ⟨i, hi, rfl, hB, hP⟩ := hrel
    by_cases hlt : i < L.length
    · have hlt' : (i : Int) < (L.length : Int) := by omega
      obtain ⟨gv, cap, hgv, hcap, hcapm, hc, _⟩ := vrow_open (row_low hrow) (by omega)
      simp only [Value.slice.injEq, true_and] at hgv
      obtain ⟨rfl, rfl⟩ := hgv
      have hgl : gv < w1.heap.size := VCells.lt hc (by omega)
      obtain ⟨x, hx⟩ : ∃ x, L[i]? = some x := ⟨_, List.getElem?_eq_getElem hlt⟩
      obtain ⟨hc0, hc1, hc2⟩ := VCells.below hc hB hgl i x hx
      obtain ⟨hxv, hxb⟩ := HM.out x (List.mem_of_getElem? hx)
      have HP : Hid _ := pairF_drop (K := kindI ps) hx
      have hLx : VLiesO w1 (if vc = i + 1 then some ⟨gv, 0, none⟩ else some ⟨gv, (i + 1) * 3, none⟩) (L.drop (i + 1)) := by
        by_cases hvc : vc = i + 1
        · exact .inl (List.drop_eq_nil_of_le (by omega))
        · rw [if_neg hvc]
          refine .inr ⟨gv, (i + 1) * 3, rfl, fun j y hj => ?_⟩
          rw [List.getElem?_drop] at hj
          have := hc (i + 1 + j) y hj
          rw [Nat.add_mul] at this
          exact this
      have hMd : ∀ y ∈ L.drop (i + 1), x.v = y.v ∧ OkB ps y := fun y hy => by
        obtain ⟨h1, h2⟩ := HM.out y (List.mem_of_mem_drop hy)
        exact ⟨hxv.trans h1.symm, h2⟩
      have hfa := fun W hA hL => first_at b 3 g0 cap0 ps hT x (L.drop (i + 1)) (if vc = i + 1 then some ⟨gv, 0, none⟩ else some ⟨gv, (i + 1) * 3, none⟩) (vc - (i + 1)) W hA hxb hMd hL (by simp; omega)
      rw [List.length_drop] at hfa
      have HX : Hid (x.v = u) := hxv
      clear hc hx hxv hMd
      have n1 : (i : Int) + 1 ≤ (vc : Int) := by omega
      have n2 : (i : Int) + 1 ≤ (L.length : Int) := by omega
      have n3 : (0 : Int) ≤ (i : Int) + 1 := by omega
      have hwr : IntKind.i64.wrap ((i : Int) + 1) = (i : Int) + 1 := Go.IntWalk.i64_in _ (by omega)
      have hwrz := hB.size
      go_wp2
      obtain ⟨wx, hwx⟩ : ∃ wx, wr.alloc (.cells #[I64 x.v, I64 x.s, I64 x.t] 47) = wx := ⟨_, rfl⟩
      have hBx : Below w1.heap.size w1 wx := by rw [← hwx]; exact hB.alloc hwrz _
      have hxz : wx.heap.size = wr.heap.size + 1 := by rw [← hwx]; simp
      have hxo : wx.heap[wr.heap.size]? = some (.cells #[I64 x.v, I64 x.s, I64 x.t] 47 (0, 0)) := by rw [← hwx]; exact heap_alloc_new wr _
      obtain ⟨nx, hnx⟩ : ∃ n, wr.heap.size = n := ⟨_, rfl⟩
      rw [hwx, hnx]
      rw [hnx] at hxz hxo hwrz
      clear hwx hc0 hc1 hc2 hnx hB
      have d0 : wx.cell? ⟨nx, 0, none⟩ = some (I64 x.v) := by rw [cell_of_heap hxo]; rfl
      have d1 : wx.cell? ⟨nx, 1, none⟩ = some (I64 x.s) := by rw [cell_of_heap hxo]; rfl
      have d2 : wx.cell? ⟨nx, 2, none⟩ = some (I64 x.t) := by rw [cell_of_heap hxo]; rfl
      clear hxo
      refine wp_region_held_drew (S := fun w' => w'.cell? ⟨nx, 0, none⟩ = some (I64 x.v) ∧ w'.cell? ⟨nx, 1, none⟩ = some (I64 x.s) ∧ w'.cell? ⟨nx, 2, none⟩ = some (I64 x.t)) (by kernel_rfl) ⟨d0, d1, d2⟩ (fun hHeld => ?_)
      refine takeH (i := 0) (v := ?vv1) rfl (by kernel_rfl) (by kernel_rfl) (by kernel_rfl) (fun _ _ _ h => h) (Or.inl ⟨by rfl, ?hy1⟩) (by assumption) ?rest1
      case hy1 => (intro w hSw; (try dsimp only at hSw); go_simp; try with_reducible rfl)
      try simp only [Act.put, List.setIfInBounds_toArray, List.set_cons_zero, List.set_cons_succ]
      refine takeH (i := 1) (v := ?vv2) rfl (by kernel_rfl) (by kernel_rfl) (by kernel_rfl) (fun _ _ _ h => h) (Or.inl ⟨by rfl, ?hy2⟩) (by assumption) ?rest2
      case hy2 => (intro w hSw; (try dsimp only at hSw); go_simp; try with_reducible rfl)
      try simp only [Act.put, List.setIfInBounds_toArray, List.set_cons_zero, List.set_cons_succ]
      refine takeH (i := 2) (v := ?vv3) rfl (by kernel_rfl) (by kernel_rfl) (by kernel_rfl) (fun _ _ _ h => h) (Or.inl ⟨by rfl, ?hy3⟩) (by assumption) ?rest3
      case hy3 => (intro w hSw; (try dsimp only at hSw); go_simp; try with_reducible rfl)
      try simp only [Act.put, List.setIfInBounds_toArray, List.set_cons_zero, List.set_cons_succ]
      refine takeH (i := 3) (v := ?vv4) rfl (by kernel_rfl) (by kernel_rfl) (by kernel_rfl) (fun _ _ _ h => h) (Or.inl ⟨by rfl, ?hy4⟩) (by assumption) ?rest4
      case hy4 => (intro w hSw; (try dsimp only at hSw); go_simp; try with_reducible rfl)
      try simp only [Act.put, List.setIfInBounds_toArray, List.set_cons_zero, List.set_cons_succ]
      refine takeH (i := 4) (v := ?vv5) rfl (by kernel_rfl) (by kernel_rfl) (by kernel_rfl) (fun _ _ _ h => h) (Or.inl ⟨by rfl, ?hy5⟩) (by assumption) ?rest5
      case hy5 => (intro w hSw; (try dsimp only at hSw); go_simp; try with_reducible rfl)
      try simp only [Act.put, List.setIfInBounds_toArray, List.set_cons_zero, List.set_cons_succ]
      refine takeH (i := 5) (v := ?vv6) rfl (by kernel_rfl) (by kernel_rfl) (by kernel_rfl) (fun _ _ _ h => h) (Or.inl ⟨by rfl, ?hy6⟩) (by assumption) ?rest6
      case hy6 => (intro w hSw; (try dsimp only at hSw); go_simp; try with_reducible rfl)
      try simp only [Act.put, List.setIfInBounds_toArray, List.set_cons_zero, List.set_cons_succ]
      refine takeH (i := 6) (v := ?vv7) rfl (by kernel_rfl) (by kernel_rfl) (by kernel_rfl) (fun _ _ _ h => h) (Or.inl ⟨by rfl, ?hy7⟩) (by assumption) ?rest7
      case hy7 => (intro w hSw; (try dsimp only at hSw); go_simp; try with_reducible rfl)
      try simp only [Act.put, List.setIfInBounds_toArray, List.set_cons_zero, List.set_cons_succ]
      refine takeH (i := 7) (v := .slice (if vc = i + 1 then some ⟨gv, 0, none⟩ else some ⟨gv, (i + 1) * 3, none⟩) (L.length - (i + 1)) (vc - (i + 1))) rfl (by kernel_rfl) (by kernel_rfl) (by kernel_rfl) (fun _ _ _ h => h) (Or.inl ⟨by rfl, ?hy8⟩) (by assumption) ?rest8
      case hy8 => (intro w hSw; (try dsimp only at hSw); go_simp; try simp [*]; try omega)
      try simp only [Act.put, List.setIfInBounds_toArray, List.set_cons_zero, List.set_cons_succ]
      obtain ⟨pL, hpL⟩ : ∃ pL, (if vc = i + 1 then some (⟨gv, 0, none⟩ : Addr) else some ⟨gv, (i + 1) * 3, none⟩) = pL := ⟨_, rfl⟩
      rw [hpL] at hLx hfa ⊢
      clear hpL
      cases hfg : firstG ps x (L.drop (i + 1)) with
      | none =>
        have HP' : Hid (pairF (kindI ps) L = pairF (kindI ps) (L.drop (i + 1))) := by
          have hn : (L.drop (i + 1)).find? (fun y => decide (kindI ps x y ≠ 0)) = none := by
            cases hq : (L.drop (i + 1)).find? (fun y => decide (kindI ps x y ≠ 0)) with
            | none => rfl
            | some y => unfold firstG at hfg; rw [hq] at hfg; cases hfg
          show _ = _
          rw [hP.out, HP.out, hn]
        rw [hfg] at hfa
        clear hfg HP hP
        refine wpAnyH_ready (rs := [8, 12]) (by kernel_rfl) (by simp) ?_
        refine AllReadyH.cons (nthO_at rfl) (fun K hK => ?_) ?_
        · rw [if_pos (by rfl)]
          have HK : Hid _ := hK.out
          clear hK
          have hBV : Below w1.heap.size w1 wx.drew := hBx.drew
          go_simp
          refine (hfa _ (hA.below hBV hlb hlg) (VLiesO.below hLx hBV)).mono ?_
          rintro e V2 ⟨rfl, hB2⟩
          have hzV := hBV.size
          have hBV2 : Below w1.heap.size w1 V2 := hBV.trans (hB2.mono hzV)
          have e0 : V2.cell? ⟨nx, 0, none⟩ = some (I64 x.v) ∧ V2.cell? ⟨nx, 1, none⟩ = some (I64 x.s) ∧ V2.cell? ⟨nx, 2, none⟩ = some (I64 x.t) := ⟨(hB2.cell (p := ⟨nx, 0, none⟩) (by simp; omega)).trans d0, (hB2.cell (p := ⟨nx, 1, none⟩) (by simp; omega)).trans d1, (hB2.cell (p := ⟨nx, 2, none⟩) (by simp; omega)).trans d2⟩
          clear hHeld hfa
          refine HK.out _ _ e0 (fun hHeld => ?_)
          clear HK K
          try simp only [Act.put, List.setIfInBounds_toArray, List.set_cons_zero, List.set_cons_succ]
          refine takeH (i := 9) (v := ?vv9) rfl (by kernel_rfl) (by kernel_rfl) (by kernel_rfl) (fun _ _ _ h => h) (Or.inl ⟨by rfl, ?hy9⟩) (by assumption) ?rest9
          case hy9 => (intro w hSw; (try dsimp only at hSw); go_simp; try with_reducible rfl)
          try simp only [Act.put, List.setIfInBounds_toArray, List.set_cons_zero, List.set_cons_succ]
          refine takeH (i := 10) (v := ?vv10) rfl (by kernel_rfl) (by kernel_rfl) (by kernel_rfl) (fun _ _ _ h => h) (Or.inl ⟨by rfl, ?hy10⟩) (by assumption) ?rest10
          case hy10 => (intro w hSw; (try dsimp only at hSw); go_simp; try with_reducible rfl)
          try simp only [Act.put, List.setIfInBounds_toArray, List.set_cons_zero, List.set_cons_succ]
          refine takeH (i := 11) (v := ?vv11) rfl (by kernel_rfl) (by kernel_rfl) (by kernel_rfl) (fun _ _ _ h => h) (Or.inl ⟨by rfl, ?hy11⟩) (by assumption) ?rest11
          case hy11 => (intro w hSw; (try dsimp only at hSw); go_simp; try with_reducible rfl)
          try simp only [Act.put, List.setIfInBounds_toArray, List.set_cons_zero, List.set_cons_succ]
          refine doneH (i := 12) rfl (by kernel_rfl) (by rfl) (fun K hK => ?_)
          have HK : Hid _ := hK
          clear hK
          go_simp
          obtain ⟨V, hV⟩ : ∃ V, V2.alloc (.cells #[I64 0, I64 0, I64 0, I64 0, I64 0, I64 0, I64 0, I64 0] 84) = V := ⟨_, rfl⟩
          have hVo : V.heap[V2.heap.size]? = some (.cells #[I64 0, I64 0, I64 0, I64 0, I64 0, I64 0, I64 0, I64 0] 84 (0, 0)) := by rw [← hV]; exact heap_alloc_new V2 _
          have hBp : Below w1.heap.size w1 V := by rw [← hV]; exact hBV2.alloc hBV2.size _
          have hpl : w1.heap.size ≤ V2.heap.size := hBV2.size
          have e1 : V.cell? ⟨nx, 0, none⟩ = some (I64 x.v) ∧ V.cell? ⟨nx, 1, none⟩ = some (I64 x.s) ∧ V.cell? ⟨nx, 2, none⟩ = some (I64 x.t) := by have hb : Below V2.heap.size V2 V := (by rw [← hV]; exact (Below.refl _ V2).alloc (Nat.le_refl _) _); have hnl : nx < V2.heap.size := World.block_lt_of_cell? V2 _ e0.1; exact ⟨(hb.cell (p := ⟨nx, 0, none⟩) hnl).trans e0.1, (hb.cell (p := ⟨nx, 1, none⟩) hnl).trans e0.2.1, (hb.cell (p := ⟨nx, 2, none⟩) hnl).trans e0.2.2⟩
          have hpx : V2.heap.size ≠ nx := by have := World.block_lt_of_cell? V2 _ e0.1; dsimp only at this; omega
          rw [hV]
          clear hHeld e0
          refine HK.out _ _ e1 (fun hHeld => ?_)
          clear HK K
          try simp only [Act.put, List.setIfInBounds_toArray, List.set_cons_zero, List.set_cons_succ]
          generalize V2.heap.size = pp at hVo hpl hpx ⊢
          clear hV hBV2 hzV
          have fz : ∀ o, V.frozen? ⟨pp, o, none⟩ = false := fun o => frozen_of_heap hVo o
          obtain ⟨z0, z1, z2, z3, z4, z5, z6, z7⟩ := eight_cells hVo
          refine doneH (i := 13) rfl (by kernel_rfl) (by rfl) (fun K hK => ?_)
          have HK : Hid _ := hK
          clear hK
          go_simp
          have h8 := put8_heap hVo (I64 0) (I64 0) (I64 0) (I64 0) (I64 0) (I64 0) (I64 0) (I64 0)
          have hBq := put8_below hBp hpl (I64 0) (I64 0) (I64 0) (I64 0) (I64 0) (I64 0) (I64 0) (I64 0)
          have e2 : (put8 V pp (I64 0) (I64 0) (I64 0) (I64 0) (I64 0) (I64 0) (I64 0) (I64 0)).cell? ⟨nx, 0, none⟩ = some (I64 x.v) ∧ (put8 V pp (I64 0) (I64 0) (I64 0) (I64 0) (I64 0) (I64 0) (I64 0) (I64 0)).cell? ⟨nx, 1, none⟩ = some (I64 x.s) ∧ (put8 V pp (I64 0) (I64 0) (I64 0) (I64 0) (I64 0) (I64 0) (I64 0) (I64 0)).cell? ⟨nx, 2, none⟩ = some (I64 x.t) := by
            unfold put8
            refine ⟨?_, ?_, ?_⟩ <;> repeat (rw [World.cell?_setCell_other _ _ _ _ (by first | (simp; done) | (simp; omega))])
            · exact e1.1
            · exact e1.2.1
            · exact e1.2.2
          have hfold : put8 V pp (I64 0) (I64 0) (I64 0) (I64 0) (I64 0) (I64 0) (I64 0) (I64 0) = (((((((V.setCell ⟨pp, 0, none⟩ (I64 0)).setCell ⟨pp, 1, none⟩ (I64 0)).setCell ⟨pp, 2, none⟩ (I64 0)).setCell ⟨pp, 3, none⟩ (I64 0)).setCell ⟨pp, 4, none⟩ (I64 0)).setCell ⟨pp, 5, none⟩ (I64 0)).setCell ⟨pp, 6, none⟩ (I64 0)).setCell ⟨pp, 7, none⟩ (I64 0) := rfl
          rw [← hfold]
          clear hfold
          generalize put8 V pp (I64 0) (I64 0) (I64 0) (I64 0) (I64 0) (I64 0) (I64 0) (I64 0) = Y at h8 hBq e2 ⊢
          clear hHeld e1 fz z0 z1 z2 z3 z4 z5 z6 z7 hVo hBp
          refine HK.out _ _ e2 (fun hHeld => ?_)
          clear HK K
          try simp only [Act.put, List.setIfInBounds_toArray, List.set_cons_zero, List.set_cons_succ]
          refine takeH (i := 14) (v := ?vv12) rfl (by kernel_rfl) (by kernel_rfl) (by kernel_rfl) (fun _ _ _ h => h) (Or.inl ⟨by rfl, ?hy12⟩) (by assumption) ?rest12
          case hy12 => (intro w hSw; (try dsimp only at hSw); go_simp; try with_reducible rfl)
          try simp only [Act.put, List.setIfInBounds_toArray, List.set_cons_zero, List.set_cons_succ]
          clear hHeld e2
          refine wpAnyH_done (by kernel_rfl) ?_ _
          clear h8
          go_wp2
          go_roundw
          case rel => exact ⟨i + 1, by omega, by go_num, hBq, HP'⟩
          case measure => simp [intOf]; omega
        refine AllReadyH.cons (nthO_at rfl) (fun K hK => ?_) ?_
        · rw [if_pos (by rfl)]
          have HK : Hid _ := hK.out
          clear hK
          go_simp
          obtain ⟨V1, hV⟩ : ∃ V, (wx.alloc (.cells #[I64 0, I64 0, I64 0, I64 0, I64 0, I64 0, I64 0, I64 0] 84)).drew = V := ⟨_, rfl⟩
          have hVo1 : V1.heap[nx + 1]? = some (.cells #[I64 0, I64 0, I64 0, I64 0, I64 0, I64 0, I64 0, I64 0] 84 (0, 0)) := by rw [← hV, ← hxz]; exact heap_alloc_new wx _
          have hBV : Below w1.heap.size w1 V1 := by rw [← hV]; exact (hBx.alloc hBx.size _).drew
          have hvz : V1.heap.size = nx + 1 + 1 := by rw [← hV, ← hxz]; simp
          have hpl : w1.heap.size ≤ nx + 1 := by rw [← hxz]; exact hBx.size
          have e0 : V1.cell? ⟨nx, 0, none⟩ = some (I64 x.v) ∧ V1.cell? ⟨nx, 1, none⟩ = some (I64 x.s) ∧ V1.cell? ⟨nx, 2, none⟩ = some (I64 x.t) := by have hb : Below wx.heap.size wx V1 := (by rw [← hV]; exact ((Below.refl wx.heap.size wx).alloc (Nat.le_refl _) _).drew); exact ⟨(hb.cell (p := ⟨nx, 0, none⟩) (by dsimp only; omega)).trans d0, (hb.cell (p := ⟨nx, 1, none⟩) (by dsimp only; omega)).trans d1, (hb.cell (p := ⟨nx, 2, none⟩) (by dsimp only; omega)).trans d2⟩
          have hpx : nx + 1 ≠ nx := by omega
          rw [hV]
          clear hHeld hV
          refine HK.out _ _ e0 (fun hHeld => ?_)
          clear HK K
          try simp only [Act.put, List.setIfInBounds_toArray, List.set_cons_zero, List.set_cons_succ]
          refine doneH (i := 8) rfl (by kernel_rfl) (by rfl) (fun K hK => ?_)
          have HK : Hid _ := hK
          clear hK
          go_simp
          refine (hfa _ (hA.below hBV hlb hlg) (VLiesO.below hLx hBV)).mono ?_
          rintro e V2 ⟨rfl, hB2⟩
          have hzV := hBV.size
          have hBV2 : Below w1.heap.size w1 V2 := hBV.trans (hB2.mono hzV)
          have hVo : V2.heap[nx + 1]? = some (.cells #[I64 0, I64 0, I64 0, I64 0, I64 0, I64 0, I64 0, I64 0] 84 (0, 0)) := (hB2.block _ (by omega)).trans hVo1
          have e1 : V2.cell? ⟨nx, 0, none⟩ = some (I64 x.v) ∧ V2.cell? ⟨nx, 1, none⟩ = some (I64 x.s) ∧ V2.cell? ⟨nx, 2, none⟩ = some (I64 x.t) := ⟨(hB2.cell (p := ⟨nx, 0, none⟩) (by dsimp only; omega)).trans e0.1, (hB2.cell (p := ⟨nx, 1, none⟩) (by dsimp only; omega)).trans e0.2.1, (hB2.cell (p := ⟨nx, 2, none⟩) (by dsimp only; omega)).trans e0.2.2⟩
          have hBp := hBV2
          clear hHeld hfa hVo1 e0 hBV2
          refine HK.out _ _ e1 (fun hHeld => ?_)
          clear HK K
          try simp only [Act.put, List.setIfInBounds_toArray, List.set_cons_zero, List.set_cons_succ]
          refine takeH (i := 9) (v := ?vv13) rfl (by kernel_rfl) (by kernel_rfl) (by kernel_rfl) (fun _ _ _ h => h) (Or.inl ⟨by rfl, ?hy13⟩) (by assumption) ?rest13
          case hy13 => (intro w hSw; (try dsimp only at hSw); go_simp; try with_reducible rfl)
          try simp only [Act.put, List.setIfInBounds_toArray, List.set_cons_zero, List.set_cons_succ]
          refine takeH (i := 10) (v := ?vv14) rfl (by kernel_rfl) (by kernel_rfl) (by kernel_rfl) (fun _ _ _ h => h) (Or.inl ⟨by rfl, ?hy14⟩) (by assumption) ?rest14
          case hy14 => (intro w hSw; (try dsimp only at hSw); go_simp; try with_reducible rfl)
          try simp only [Act.put, List.setIfInBounds_toArray, List.set_cons_zero, List.set_cons_succ]
          refine takeH (i := 11) (v := ?vv15) rfl (by kernel_rfl) (by kernel_rfl) (by kernel_rfl) (fun _ _ _ h => h) (Or.inl ⟨by rfl, ?hy15⟩) (by assumption) ?rest15
          case hy15 => (intro w hSw; (try dsimp only at hSw); go_simp; try with_reducible rfl)
          try simp only [Act.put, List.setIfInBounds_toArray, List.set_cons_zero, List.set_cons_succ]
          generalize nx + 1 = pp at hVo hpl hpx ⊢
          generalize V2 = V at hVo hBp e1 hHeld ⊢
          clear hzV
          have fz : ∀ o, V.frozen? ⟨pp, o, none⟩ = false := fun o => frozen_of_heap hVo o
          obtain ⟨z0, z1, z2, z3, z4, z5, z6, z7⟩ := eight_cells hVo
          refine doneH (i := 13) rfl (by kernel_rfl) (by rfl) (fun K hK => ?_)
          have HK : Hid _ := hK
          clear hK
          go_simp
          have h8 := put8_heap hVo (I64 0) (I64 0) (I64 0) (I64 0) (I64 0) (I64 0) (I64 0) (I64 0)
          have hBq := put8_below hBp hpl (I64 0) (I64 0) (I64 0) (I64 0) (I64 0) (I64 0) (I64 0) (I64 0)
          have e2 : (put8 V pp (I64 0) (I64 0) (I64 0) (I64 0) (I64 0) (I64 0) (I64 0) (I64 0)).cell? ⟨nx, 0, none⟩ = some (I64 x.v) ∧ (put8 V pp (I64 0) (I64 0) (I64 0) (I64 0) (I64 0) (I64 0) (I64 0) (I64 0)).cell? ⟨nx, 1, none⟩ = some (I64 x.s) ∧ (put8 V pp (I64 0) (I64 0) (I64 0) (I64 0) (I64 0) (I64 0) (I64 0) (I64 0)).cell? ⟨nx, 2, none⟩ = some (I64 x.t) := by
            unfold put8
            refine ⟨?_, ?_, ?_⟩ <;> repeat (rw [World.cell?_setCell_other _ _ _ _ (by first | (simp; done) | (simp; omega))])
            · exact e1.1
            · exact e1.2.1
            · exact e1.2.2
          have hfold : put8 V pp (I64 0) (I64 0) (I64 0) (I64 0) (I64 0) (I64 0) (I64 0) (I64 0) = (((((((V.setCell ⟨pp, 0, none⟩ (I64 0)).setCell ⟨pp, 1, none⟩ (I64 0)).setCell ⟨pp, 2, none⟩ (I64 0)).setCell ⟨pp, 3, none⟩ (I64 0)).setCell ⟨pp, 4, none⟩ (I64 0)).setCell ⟨pp, 5, none⟩ (I64 0)).setCell ⟨pp, 6, none⟩ (I64 0)).setCell ⟨pp, 7, none⟩ (I64 0) := rfl
          rw [← hfold]
          clear hfold
          generalize put8 V pp (I64 0) (I64 0) (I64 0) (I64 0) (I64 0) (I64 0) (I64 0) (I64 0) = Y at h8 hBq e2 ⊢
          clear hHeld e1 fz z0 z1 z2 z3 z4 z5 z6 z7 hVo hBp
          refine HK.out _ _ e2 (fun hHeld => ?_)
          clear HK K
          try simp only [Act.put, List.setIfInBounds_toArray, List.set_cons_zero, List.set_cons_succ]
          refine takeH (i := 14) (v := ?vv16) rfl (by kernel_rfl) (by kernel_rfl) (by kernel_rfl) (fun _ _ _ h => h) (Or.inl ⟨by rfl, ?hy16⟩) (by assumption) ?rest16
          case hy16 => (intro w hSw; (try dsimp only at hSw); go_simp; try with_reducible rfl)
          try simp only [Act.put, List.setIfInBounds_toArray, List.set_cons_zero, List.set_cons_succ]
          clear hHeld e2
          refine wpAnyH_done (by kernel_rfl) ?_ _
          clear h8
          go_wp2
          go_roundw
          case rel => exact ⟨i + 1, by omega, by go_num, hBq, HP'⟩
          case measure => simp [intOf]; omega
        exact AllReadyH.nil
      | some gu =>
        have HR : Hid (guiltV ps vs u = some gu) := by
          cases hq : (L.drop (i + 1)).find? (fun y => decide (kindI ps x y ≠ 0)) with
          | none => unfold firstG at hfg; rw [hq] at hfg; cases hfg
          | some y =>
            unfold firstG at hfg
            rw [hq] at hfg
            simp only [Option.map_some, Option.some.injEq] at hfg
            show _ = _
            rw [HG.out, hP.out, HP.out, hq, ← hfg, HX.out]
            rfl
        rw [hfg] at hfa
        clear hfg HP hP
        refine wpAnyH_ready (rs := [8, 12]) (by kernel_rfl) (by simp) ?_
        refine AllReadyH.cons (nthO_at rfl) (fun K hK => ?_) ?_
        · rw [if_pos (by rfl)]
          have HK : Hid _ := hK.out
          clear hK
          have hBV : Below w1.heap.size w1 wx.drew := hBx.drew
          go_simp
          refine (hfa _ (hA.below hBV hlb hlg) (VLiesO.below hLx hBV)).mono ?_
          rintro e V2 ⟨rfl, hB2⟩
          have hzV := hBV.size
          have hBV2 : Below w1.heap.size w1 V2 := hBV.trans (hB2.mono hzV)
          have e0 : V2.cell? ⟨nx, 0, none⟩ = some (I64 x.v) ∧ V2.cell? ⟨nx, 1, none⟩ = some (I64 x.s) ∧ V2.cell? ⟨nx, 2, none⟩ = some (I64 x.t) := ⟨(hB2.cell (p := ⟨nx, 0, none⟩) (by simp; omega)).trans d0, (hB2.cell (p := ⟨nx, 1, none⟩) (by simp; omega)).trans d1, (hB2.cell (p := ⟨nx, 2, none⟩) (by simp; omega)).trans d2⟩
          clear hHeld hfa
          refine HK.out _ _ e0 (fun hHeld => ?_)
          clear HK K
          try simp only [Act.put, List.setIfInBounds_toArray, List.set_cons_zero, List.set_cons_succ]
          refine takeH (i := 9) (v := ?vv17) rfl (by kernel_rfl) (by kernel_rfl) (by kernel_rfl) (fun _ _ _ h => h) (Or.inl ⟨by rfl, ?hy17⟩) (by assumption) ?rest17
          case hy17 => (intro w hSw; (try dsimp only at hSw); go_simp; try with_reducible rfl)
          try simp only [Act.put, List.setIfInBounds_toArray, List.set_cons_zero, List.set_cons_succ]
          refine takeH (i := 10) (v := ?vv18) rfl (by kernel_rfl) (by kernel_rfl) (by kernel_rfl) (fun _ _ _ h => h) (Or.inl ⟨by rfl, ?hy18⟩) (by assumption) ?rest18
          case hy18 => (intro w hSw; (try dsimp only at hSw); go_simp; try with_reducible rfl)
          try simp only [Act.put, List.setIfInBounds_toArray, List.set_cons_zero, List.set_cons_succ]
          refine takeH (i := 11) (v := ?vv19) rfl (by kernel_rfl) (by kernel_rfl) (by kernel_rfl) (fun _ _ _ h => h) (Or.inl ⟨by rfl, ?hy19⟩) (by assumption) ?rest19
          case hy19 => (intro w hSw; (try dsimp only at hSw); go_simp; try with_reducible rfl)
          try simp only [Act.put, List.setIfInBounds_toArray, List.set_cons_zero, List.set_cons_succ]
          refine doneH (i := 12) rfl (by kernel_rfl) (by rfl) (fun K hK => ?_)
          have HK : Hid _ := hK
          clear hK
          go_simp
          obtain ⟨V, hV⟩ : ∃ V, V2.alloc (.cells #[I64 0, I64 0, I64 0, I64 0, I64 0, I64 0, I64 0, I64 0] 84) = V := ⟨_, rfl⟩
          have hVo : V.heap[V2.heap.size]? = some (.cells #[I64 0, I64 0, I64 0, I64 0, I64 0, I64 0, I64 0, I64 0] 84 (0, 0)) := by rw [← hV]; exact heap_alloc_new V2 _
          have hBp : Below w1.heap.size w1 V := by rw [← hV]; exact hBV2.alloc hBV2.size _
          have hpl : w1.heap.size ≤ V2.heap.size := hBV2.size
          have e1 : V.cell? ⟨nx, 0, none⟩ = some (I64 x.v) ∧ V.cell? ⟨nx, 1, none⟩ = some (I64 x.s) ∧ V.cell? ⟨nx, 2, none⟩ = some (I64 x.t) := by have hb : Below V2.heap.size V2 V := (by rw [← hV]; exact (Below.refl _ V2).alloc (Nat.le_refl _) _); have hnl : nx < V2.heap.size := World.block_lt_of_cell? V2 _ e0.1; exact ⟨(hb.cell (p := ⟨nx, 0, none⟩) hnl).trans e0.1, (hb.cell (p := ⟨nx, 1, none⟩) hnl).trans e0.2.1, (hb.cell (p := ⟨nx, 2, none⟩) hnl).trans e0.2.2⟩
          have hpx : V2.heap.size ≠ nx := by have := World.block_lt_of_cell? V2 _ e0.1; dsimp only at this; omega
          rw [hV]
          clear hHeld e0
          refine HK.out _ _ e1 (fun hHeld => ?_)
          clear HK K
          try simp only [Act.put, List.setIfInBounds_toArray, List.set_cons_zero, List.set_cons_succ]
          generalize V2.heap.size = pp at hVo hpl hpx ⊢
          clear hV hBV2 hzV
          have fz : ∀ o, V.frozen? ⟨pp, o, none⟩ = false := fun o => frozen_of_heap hVo o
          obtain ⟨z0, z1, z2, z3, z4, z5, z6, z7⟩ := eight_cells hVo
          refine doneH (i := 13) rfl (by kernel_rfl) (by rfl) (fun K hK => ?_)
          have HK : Hid _ := hK
          clear hK
          go_simp
          have h8 := put8_heap hVo (I64 gu.v) (I64 gu.k) (I64 gu.a.v) (I64 gu.a.s) (I64 gu.a.t) (I64 gu.b.v) (I64 gu.b.s) (I64 gu.b.t)
          have hBq := put8_below hBp hpl (I64 gu.v) (I64 gu.k) (I64 gu.a.v) (I64 gu.a.s) (I64 gu.a.t) (I64 gu.b.v) (I64 gu.b.s) (I64 gu.b.t)
          have e2 : (put8 V pp (I64 gu.v) (I64 gu.k) (I64 gu.a.v) (I64 gu.a.s) (I64 gu.a.t) (I64 gu.b.v) (I64 gu.b.s) (I64 gu.b.t)).cell? ⟨nx, 0, none⟩ = some (I64 x.v) ∧ (put8 V pp (I64 gu.v) (I64 gu.k) (I64 gu.a.v) (I64 gu.a.s) (I64 gu.a.t) (I64 gu.b.v) (I64 gu.b.s) (I64 gu.b.t)).cell? ⟨nx, 1, none⟩ = some (I64 x.s) ∧ (put8 V pp (I64 gu.v) (I64 gu.k) (I64 gu.a.v) (I64 gu.a.s) (I64 gu.a.t) (I64 gu.b.v) (I64 gu.b.s) (I64 gu.b.t)).cell? ⟨nx, 2, none⟩ = some (I64 x.t) := by
            unfold put8
            refine ⟨?_, ?_, ?_⟩ <;> repeat (rw [World.cell?_setCell_other _ _ _ _ (by first | (simp; done) | (simp; omega))])
            · exact e1.1
            · exact e1.2.1
            · exact e1.2.2
          have hfold : put8 V pp (I64 gu.v) (I64 gu.k) (I64 gu.a.v) (I64 gu.a.s) (I64 gu.a.t) (I64 gu.b.v) (I64 gu.b.s) (I64 gu.b.t) = (((((((V.setCell ⟨pp, 0, none⟩ (I64 gu.v)).setCell ⟨pp, 1, none⟩ (I64 gu.k)).setCell ⟨pp, 2, none⟩ (I64 gu.a.v)).setCell ⟨pp, 3, none⟩ (I64 gu.a.s)).setCell ⟨pp, 4, none⟩ (I64 gu.a.t)).setCell ⟨pp, 5, none⟩ (I64 gu.b.v)).setCell ⟨pp, 6, none⟩ (I64 gu.b.s)).setCell ⟨pp, 7, none⟩ (I64 gu.b.t) := rfl
          rw [← hfold]
          clear hfold
          generalize put8 V pp (I64 gu.v) (I64 gu.k) (I64 gu.a.v) (I64 gu.a.s) (I64 gu.a.t) (I64 gu.b.v) (I64 gu.b.s) (I64 gu.b.t) = Y at h8 hBq e2 ⊢
          clear hHeld e1 fz z0 z1 z2 z3 z4 z5 z6 z7 hVo hBp
          refine HK.out _ _ e2 (fun hHeld => ?_)
          clear HK K
          try simp only [Act.put, List.setIfInBounds_toArray, List.set_cons_zero, List.set_cons_succ]
          refine takeH (i := 14) (v := ?vv20) rfl (by kernel_rfl) (by kernel_rfl) (by kernel_rfl) (fun _ _ _ h => h) (Or.inl ⟨by rfl, ?hy20⟩) (by assumption) ?rest20
          case hy20 => (intro w hSw; (try dsimp only at hSw); go_simp; try with_reducible rfl)
          try simp only [Act.put, List.setIfInBounds_toArray, List.set_cons_zero, List.set_cons_succ]
          clear hHeld e2
          refine wpAnyH_done (by kernel_rfl) ?_ _
          obtain ⟨z0, z1, z2, z3, z4, z5, z6, z7⟩ := eight_cells h8
          have hrw : Y.heap[w.heap.size]? = some (.cells #[I64 0, I64 0, I64 0, I64 0, I64 0, I64 0, I64 0, I64 0] 84 (0, 0)) := (hBq.block _ (by omega)).trans hr1
          obtain ⟨x0, x1, x2, x3, x4, x5, x6, x7⟩ := eight_cells hrw
          have fz : ∀ o, Y.frozen? ⟨w.heap.size, o, none⟩ = false := fun o => frozen_of_heap hrw o
          have HRW : Hid _ := hrw
          clear hrw hr1 h8
          go_wp2
          have h8 := put8_heap HRW.out (I64 gu.v) (I64 gu.k) (I64 gu.a.v) (I64 gu.a.s) (I64 gu.a.t) (I64 gu.b.v) (I64 gu.b.s) (I64 gu.b.t)
          obtain ⟨y0, y1, y2, y3, y4, y5, y6, y7⟩ := eight_cells h8
          unfold put8 at y0 y1 y2 y3 y4 y5 y6 y7
          refine ⟨rfl, .tuple #[guV (guiltV ps vs u), .bool (guiltV ps vs u).isSome], ?_, rfl, put8_below (hBw.trans (hBq.mono hBw.size)) (Nat.le_refl _) _ _ _ _ _ _ _ _⟩
          rw [HR.out]
          simp only [results, Tryz.f118]
          simp [go_sem, y0, y1, y2, y3, y4, y5, y6, y7]
        refine AllReadyH.cons (nthO_at rfl) (fun K hK => ?_) ?_
        · rw [if_pos (by rfl)]
          have HK : Hid _ := hK.out
          clear hK
          go_simp
          obtain ⟨V1, hV⟩ : ∃ V, (wx.alloc (.cells #[I64 0, I64 0, I64 0, I64 0, I64 0, I64 0, I64 0, I64 0] 84)).drew = V := ⟨_, rfl⟩
          have hVo1 : V1.heap[nx + 1]? = some (.cells #[I64 0, I64 0, I64 0, I64 0, I64 0, I64 0, I64 0, I64 0] 84 (0, 0)) := by rw [← hV, ← hxz]; exact heap_alloc_new wx _
          have hBV : Below w1.heap.size w1 V1 := by rw [← hV]; exact (hBx.alloc hBx.size _).drew
          have hvz : V1.heap.size = nx + 1 + 1 := by rw [← hV, ← hxz]; simp
          have hpl : w1.heap.size ≤ nx + 1 := by rw [← hxz]; exact hBx.size
          have e0 : V1.cell? ⟨nx, 0, none⟩ = some (I64 x.v) ∧ V1.cell? ⟨nx, 1, none⟩ = some (I64 x.s) ∧ V1.cell? ⟨nx, 2, none⟩ = some (I64 x.t) := by have hb : Below wx.heap.size wx V1 := (by rw [← hV]; exact ((Below.refl wx.heap.size wx).alloc (Nat.le_refl _) _).drew); exact ⟨(hb.cell (p := ⟨nx, 0, none⟩) (by dsimp only; omega)).trans d0, (hb.cell (p := ⟨nx, 1, none⟩) (by dsimp only; omega)).trans d1, (hb.cell (p := ⟨nx, 2, none⟩) (by dsimp only; omega)).trans d2⟩
          have hpx : nx + 1 ≠ nx := by omega
          rw [hV]
          clear hHeld hV
          refine HK.out _ _ e0 (fun hHeld => ?_)
          clear HK K
          try simp only [Act.put, List.setIfInBounds_toArray, List.set_cons_zero, List.set_cons_succ]
          refine doneH (i := 8) rfl (by kernel_rfl) (by rfl) (fun K hK => ?_)
          have HK : Hid _ := hK
          clear hK
          go_simp
          refine (hfa _ (hA.below hBV hlb hlg) (VLiesO.below hLx hBV)).mono ?_
          rintro e V2 ⟨rfl, hB2⟩
          have hzV := hBV.size
          have hBV2 : Below w1.heap.size w1 V2 := hBV.trans (hB2.mono hzV)
          have hVo : V2.heap[nx + 1]? = some (.cells #[I64 0, I64 0, I64 0, I64 0, I64 0, I64 0, I64 0, I64 0] 84 (0, 0)) := (hB2.block _ (by omega)).trans hVo1
          have e1 : V2.cell? ⟨nx, 0, none⟩ = some (I64 x.v) ∧ V2.cell? ⟨nx, 1, none⟩ = some (I64 x.s) ∧ V2.cell? ⟨nx, 2, none⟩ = some (I64 x.t) := ⟨(hB2.cell (p := ⟨nx, 0, none⟩) (by dsimp only; omega)).trans e0.1, (hB2.cell (p := ⟨nx, 1, none⟩) (by dsimp only; omega)).trans e0.2.1, (hB2.cell (p := ⟨nx, 2, none⟩) (by dsimp only; omega)).trans e0.2.2⟩
          have hBp := hBV2
          clear hHeld hfa hVo1 e0 hBV2
          refine HK.out _ _ e1 (fun hHeld => ?_)
          clear HK K
          try simp only [Act.put, List.setIfInBounds_toArray, List.set_cons_zero, List.set_cons_succ]
          refine takeH (i := 9) (v := ?vv21) rfl (by kernel_rfl) (by kernel_rfl) (by kernel_rfl) (fun _ _ _ h => h) (Or.inl ⟨by rfl, ?hy21⟩) (by assumption) ?rest21
          case hy21 => (intro w hSw; (try dsimp only at hSw); go_simp; try with_reducible rfl)
          try simp only [Act.put, List.setIfInBounds_toArray, List.set_cons_zero, List.set_cons_succ]
          refine takeH (i := 10) (v := ?vv22) rfl (by kernel_rfl) (by kernel_rfl) (by kernel_rfl) (fun _ _ _ h => h) (Or.inl ⟨by rfl, ?hy22⟩) (by assumption) ?rest22
          case hy22 => (intro w hSw; (try dsimp only at hSw); go_simp; try with_reducible rfl)
          try simp only [Act.put, List.setIfInBounds_toArray, List.set_cons_zero, List.set_cons_succ]
          refine takeH (i := 11) (v := ?vv23) rfl (by kernel_rfl) (by kernel_rfl) (by kernel_rfl) (fun _ _ _ h => h) (Or.inl ⟨by rfl, ?hy23⟩) (by assumption) ?rest23
          case hy23 => (intro w hSw; (try dsimp only at hSw); go_simp; try with_reducible rfl)
          try simp only [Act.put, List.setIfInBounds_toArray, List.set_cons_zero, List.set_cons_succ]
          generalize nx + 1 = pp at hVo hpl hpx ⊢
          generalize V2 = V at hVo hBp e1 hHeld ⊢
          clear hzV
          have fz : ∀ o, V.frozen? ⟨pp, o, none⟩ = false := fun o => frozen_of_heap hVo o
          obtain ⟨z0, z1, z2, z3, z4, z5, z6, z7⟩ := eight_cells hVo
          refine doneH (i := 13) rfl (by kernel_rfl) (by rfl) (fun K hK => ?_)
          have HK : Hid _ := hK
          clear hK
          go_simp
          have h8 := put8_heap hVo (I64 gu.v) (I64 gu.k) (I64 gu.a.v) (I64 gu.a.s) (I64 gu.a.t) (I64 gu.b.v) (I64 gu.b.s) (I64 gu.b.t)
          have hBq := put8_below hBp hpl (I64 gu.v) (I64 gu.k) (I64 gu.a.v) (I64 gu.a.s) (I64 gu.a.t) (I64 gu.b.v) (I64 gu.b.s) (I64 gu.b.t)
          have e2 : (put8 V pp (I64 gu.v) (I64 gu.k) (I64 gu.a.v) (I64 gu.a.s) (I64 gu.a.t) (I64 gu.b.v) (I64 gu.b.s) (I64 gu.b.t)).cell? ⟨nx, 0, none⟩ = some (I64 x.v) ∧ (put8 V pp (I64 gu.v) (I64 gu.k) (I64 gu.a.v) (I64 gu.a.s) (I64 gu.a.t) (I64 gu.b.v) (I64 gu.b.s) (I64 gu.b.t)).cell? ⟨nx, 1, none⟩ = some (I64 x.s) ∧ (put8 V pp (I64 gu.v) (I64 gu.k) (I64 gu.a.v) (I64 gu.a.s) (I64 gu.a.t) (I64 gu.b.v) (I64 gu.b.s) (I64 gu.b.t)).cell? ⟨nx, 2, none⟩ = some (I64 x.t) := by
            unfold put8
            refine ⟨?_, ?_, ?_⟩ <;> repeat (rw [World.cell?_setCell_other _ _ _ _ (by first | (simp; done) | (simp; omega))])
            · exact e1.1
            · exact e1.2.1
            · exact e1.2.2
          have hfold : put8 V pp (I64 gu.v) (I64 gu.k) (I64 gu.a.v) (I64 gu.a.s) (I64 gu.a.t) (I64 gu.b.v) (I64 gu.b.s) (I64 gu.b.t) = (((((((V.setCell ⟨pp, 0, none⟩ (I64 gu.v)).setCell ⟨pp, 1, none⟩ (I64 gu.k)).setCell ⟨pp, 2, none⟩ (I64 gu.a.v)).setCell ⟨pp, 3, none⟩ (I64 gu.a.s)).setCell ⟨pp, 4, none⟩ (I64 gu.a.t)).setCell ⟨pp, 5, none⟩ (I64 gu.b.v)).setCell ⟨pp, 6, none⟩ (I64 gu.b.s)).setCell ⟨pp, 7, none⟩ (I64 gu.b.t) := rfl
          rw [← hfold]
          clear hfold
          generalize put8 V pp (I64 gu.v) (I64 gu.k) (I64 gu.a.v) (I64 gu.a.s) (I64 gu.a.t) (I64 gu.b.v) (I64 gu.b.s) (I64 gu.b.t) = Y at h8 hBq e2 ⊢
          clear hHeld e1 fz z0 z1 z2 z3 z4 z5 z6 z7 hVo hBp
          refine HK.out _ _ e2 (fun hHeld => ?_)
          clear HK K
          try simp only [Act.put, List.setIfInBounds_toArray, List.set_cons_zero, List.set_cons_succ]
          refine takeH (i := 14) (v := ?vv24) rfl (by kernel_rfl) (by kernel_rfl) (by kernel_rfl) (fun _ _ _ h => h) (Or.inl ⟨by rfl, ?hy24⟩) (by assumption) ?rest24
          case hy24 => (intro w hSw; (try dsimp only at hSw); go_simp; try with_reducible rfl)
          try simp only [Act.put, List.setIfInBounds_toArray, List.set_cons_zero, List.set_cons_succ]
          clear hHeld e2
          refine wpAnyH_done (by kernel_rfl) ?_ _
          obtain ⟨z0, z1, z2, z3, z4, z5, z6, z7⟩ := eight_cells h8
          have hrw : Y.heap[w.heap.size]? = some (.cells #[I64 0, I64 0, I64 0, I64 0, I64 0, I64 0, I64 0, I64 0] 84 (0, 0)) := (hBq.block _ (by omega)).trans hr1
          obtain ⟨x0, x1, x2, x3, x4, x5, x6, x7⟩ := eight_cells hrw
          have fz : ∀ o, Y.frozen? ⟨w.heap.size, o, none⟩ = false := fun o => frozen_of_heap hrw o
          have HRW : Hid _ := hrw
          clear hrw hr1 h8
          go_wp2
          have h8 := put8_heap HRW.out (I64 gu.v) (I64 gu.k) (I64 gu.a.v) (I64 gu.a.s) (I64 gu.a.t) (I64 gu.b.v) (I64 gu.b.s) (I64 gu.b.t)
          obtain ⟨y0, y1, y2, y3, y4, y5, y6, y7⟩ := eight_cells h8
          unfold put8 at y0 y1 y2 y3 y4 y5 y6 y7
          refine ⟨rfl, .tuple #[guV (guiltV ps vs u), .bool (guiltV ps vs u).isSome], ?_, rfl, put8_below (hBw.trans (hBq.mono hBw.size)) (Nat.le_refl _) _ _ _ _ _ _ _ _⟩
          rw [HR.out]
          simp only [results, Tryz.f118]
          simp [go_sem, y0, y1, y2, y3, y4, y5, y6, y7]
        exact AllReadyH.nil
    · have hrw : wr.heap[w.heap.size]? = some (.cells #[I64 0, I64 0, I64 0, I64 0, I64 0, I64 0, I64 0, I64 0] 84 (0, 0)) := (hB.block _ (by omega)).trans hr1
      have z0 : wr.cell? ⟨w.heap.size, 0, none⟩ = some (I64 0) := by rw [cell_of_heap hrw]; rfl
      have z1 : wr.cell? ⟨w.heap.size, 1, none⟩ = some (I64 0) := by rw [cell_of_heap hrw]; rfl
      have z2 : wr.cell? ⟨w.heap.size, 2, none⟩ = some (I64 0) := by rw [cell_of_heap hrw]; rfl
      have z3 : wr.cell? ⟨w.heap.size, 3, none⟩ = some (I64 0) := by rw [cell_of_heap hrw]; rfl
      have z4 : wr.cell? ⟨w.heap.size, 4, none⟩ = some (I64 0) := by rw [cell_of_heap hrw]; rfl
      have z5 : wr.cell? ⟨w.heap.size, 5, none⟩ = some (I64 0) := by rw [cell_of_heap hrw]; rfl
      have z6 : wr.cell? ⟨w.heap.size, 6, none⟩ = some (I64 0) := by rw [cell_of_heap hrw]; rfl
      have z7 : wr.cell? ⟨w.heap.size, 7, none⟩ = some (I64 0) := by rw [cell_of_heap hrw]; rfl
      have fz : ∀ o, wr.frozen? ⟨w.heap.size, o, none⟩ = false := fun o => frozen_of_heap hrw o
      have HRW : Hid _ := hrw
      clear hrw hr1
      go_wp2
      have HN : Hid (guiltV ps vs u = none) := by
        show _ = _
        rw [HG.out, hP.out, List.drop_eq_nil_of_le (by omega)]; rfl
      have h8 := put8_heap HRW.out (I64 0) (I64 0) (I64 0) (I64 0) (I64 0) (I64 0) (I64 0) (I64 0)
      obtain ⟨y0, y1, y2, y3, y4, y5, y6, y7⟩ := eight_cells h8
      unfold put8 at y0 y1 y2 y3 y4 y5 y6 y7
      refine ⟨rfl, .tuple #[guV (guiltV ps vs u), .bool (guiltV ps vs u).isSome], ?_, rfl, put8_below (hBw.trans (hB.mono hBw.size)) (Nat.le_refl _) _ _ _ _ _ _ _ _⟩
      rw [HN.out]
      simp only [results, Tryz.f118]
      simp [go_sem, y0, y1, y2, y3, y4, y5, y6, y7]

def guCells (g : Gu) : List Value := [I64 g.v, I64 g.k, I64 g.a.v, I64 g.a.s, I64 g.a.t, I64 g.b.v, I64 g.b.s, I64 g.b.t]
def guRow (gs : List Gu) : List Value := gs.flatMap guCells
theorem guRow_append (a b : List Gu) : guRow (a ++ b) = guRow a ++ guRow b := by simp [guRow]
theorem info_guilt : (Tryz.prog.info? 84).map (fun i => (i.zero, i.size, i.bytes)) = some (some (.agg #[I64 0, I64 0, I64 0, I64 0, I64 0, I64 0, I64 0, I64 0]), 8, 64) := by kernel_rfl
theorem guiltL_length (n : Nat) (ps : List Int) (vs : List Vt) : (guiltL n ps vs).length ≤ n := by
  unfold guiltL
  exact Nat.le_trans (List.length_filterMap_le _ _) (by simp)

set_option maxRecDepth 100000 in
set_option maxHeartbeats 4000000 in
theorem guilties_at (b : Nat) (S : Nat → Prop) (m : Int) (ws ps : List Int) (vs : List Vt) (wv pv vv : Value) (w : World) (h : CourtAt w b S m ws ps vs wv pv vv) (hT : Tree ps) (hW : OkWs ws) (hl : vs.length ≤ 300) (hO : OkV ws.length ps vs) :
    Calls Tryz.prog 95 #[.pointer (some ⟨b, 0, none⟩)] w fun e w' => (∃ v, e = .returned v ∧ w'.ownsRow w.heap.size 84 8 v (guiltL ws.length ps vs).length (guRow (guiltL ws.length ps vs))) ∧ Below w.heap.size w w' := by
  obtain ⟨gw, capw, rfl, _, _, hcw, _⟩ := row_open h.wrow hW.pos
  have hbl := h.lt b h.inb
  have h2 := h.c2
  have hw12 := hW.le
  clear hcw
  obtain ⟨i0, hi, hz0, hz1, hz2⟩ := info_parts info_guilt
  go_enter Tryz.func95, Tryz.ntmps95
  go_wp2
  go_loopw [3, 12] (fun v i wr => ∃ k : Nat, k ≤ ws.length ∧ i = .int .i64 k ∧ Below w.heap.size w wr ∧ wr.ownsRow w.heap.size 84 8 v (guiltL k ps vs).length (guRow (guiltL k ps vs))) (fun _ i _ => ws.length - (intOf i).toNat)
  case atStart => exact ⟨0, by omega, rfl, Below.refl _ _, World.ownsRow_nil _ _ _ _⟩
  case round =>
    obtain ⟨k, hk, rfl, hB, hown⟩ := hrel
    have hz := hB.size
    by_cases hlt : k < ws.length
    · have hlt' : (k : Int) < (ws.length : Int) := by omega
      have hC := h.kept (Chg.of_below (fun _ => False) hB) (fun _ _ hf => hf)
      have HS : Hid _ := guiltL_succ k ps vs
      have hgl := guiltL_length k ps vs
      obtain ⟨G, hG⟩ : ∃ G, guiltL k ps vs = G := ⟨_, rfl⟩
      rw [hG] at hown hgl
      have HG : Hid (guiltL k ps vs = G) := hG
      clear hG
      go_wp2_with fail
      refine (guiltOf_at b S m ws ps vs _ _ _ k wr hC hT hl hO).mono ?_
      rintro e w3 ⟨rfl, hB3⟩
      have hown3 := row_below hown hB3 (Nat.le_refl _)
      have hB4 : Below w.heap.size w w3 := hB.trans (hB3.mono hz)
      have hz4 := hB4.size
      cases hgv : guiltV ps vs k with
      | none =>
        have HS' : Hid (guiltL (k + 1) ps vs = G) := by show _ = _; rw [HS.out, HG.out, hgv]; simp
        clear HS hgv
        go_wp2
        go_roundw
        case rel => exact ⟨k + 1, by omega, by go_num, hB4.alloc hz4 _, by rw [HS'.out]; exact hown3.alloc _⟩
        case measure => simp [intOf]; omega
      | some gu =>
        have HS' : Hid (guiltL (k + 1) ps vs = G ++ [gu]) := by show _ = _; rw [HS.out, HG.out, hgv]; rfl
        clear HS hgv
        have h63 : Hid (G.length + 1 ≤ maxLen) := by show _ ≤ _; unfold maxLen; omega
        go_wp2_with (at_builtin; refine wpList_append_own _ (by rfl) _ _ _ (by rfl) w.heap.size 84 i0 (.agg #[I64 0, I64 0, I64 0, I64 0, I64 0, I64 0, I64 0, I64 0]) 8 64 Tryz.underlying72 hi hz0 hz1 hz2 rfl (by omega) _ G.length (guRow G) (by rfl) ((hown3.alloc _).alloc _) ⟨w3.heap.size + 1, 0, none⟩ 1 1 (guCells gu) (by rfl) (by rfl) (cells_two _ _ #[I64 gu.v, I64 gu.k, I64 gu.a.v, I64 gu.a.s, I64 gu.a.t, I64 gu.b.v, I64 gu.b.s, I64 gu.b.t] _) (by simp [guCells, Value.oneCell']) h63.out (by omega) (by simp; omega) ?_; intro v1 w1 hown1 hgrow1 hnil1)
        go_roundw
        case rel => exact ⟨k + 1, by omega, by go_num, ((hB4.alloc hz4 _).alloc (by simp; omega) _).grown hgrow1 (by simp; omega) (fun j e => (hown3.lt j e).1), by rw [HS'.out, guRow_append, List.length_append]; simpa [guRow] using hown1⟩
        case measure => simp [intOf]; omega
    · have hk' : k = ws.length := by omega
      subst hk'
      go_wp2
      go_ret
      exact ⟨⟨_, rfl, hown⟩, hB⟩

set_option maxHeartbeats 1000000 in
theorem guilty_at (b : Nat) (S : Nat → Prop) (ws ps : List Int) (vs : List Vt) (wv pv vv : Value) (w : World) (h : CourtAt w b S 0 ws ps vs wv pv vv) (hT : Tree ps) (hW : OkWs ws) (hl : vs.length ≤ 300) (hO : OkV ws.length ps vs) :
    Calls Tryz.prog 57 #[.pointer (some ⟨b, 0, none⟩)] w fun e w' => (∃ v, e = .returned v ∧ w'.ownsRow w.heap.size 84 8 v (guiltL ws.length ps vs).length (guRow (guiltL ws.length ps vs))) ∧ CourtAt w' b S 0 ws ps vs wv pv vv ∧ Chg S w w' := by
  obtain ⟨gw, capw, rfl, _, _, _, _⟩ := row_open h.wrow hW.pos
  obtain ⟨h1, c1⟩ := h.setM 1
  have hd : decide (0 < ws.length) = true := by simpa using hW.pos
  go_enter_defers Tryz.func57, Tryz.ntmps57
  go_wp2_with fail
  refine (lock_at b 0 _ h.c0 (h.fz 0)).mono ?_
  rintro e w1 ⟨rfl, hw1⟩
  rw [← hw1] at h1 c1
  clear hw1
  go_wp2_with fail
  refine (made_at b 0 _ _ _ _ h1.c2).mono ?_
  rintro e w2 ⟨rfl, rfl⟩
  rw [hd]
  go_wp2_with fail
  refine (guilties_at b S 1 ws ps vs _ pv vv _ h1 hT hW hl hO).mono ?_
  rintro e w4 ⟨⟨v, rfl, hrow⟩, hB5⟩
  have h4 := h1.kept (Chg.of_below (fun _ => False) hB5) (fun _ _ hf => hf)
  go_wp2_with fail
  refine leaves_cons (f := 33) (args := #[.pointer (some ⟨b, 0, none⟩)]) (by simp) (by simp [go_sem]) ?_
  refine (unlock_at b 0 .returning _ h4.c0 (h4.fz 0)).mono ?_
  rintro e u' w'' ⟨rfl, rfl, rfl⟩
  obtain ⟨h5, c5⟩ := h4.setM 0
  exact ⟨_, results_tmp rfl _ _ _, ⟨_, rfl, row_lower (row_set hrow b 0 _ (h1.lt b h1.inb)) c1.size⟩, h5, (c1.trans (Chg.of_below S hB5)).trans c5⟩
end Go.Proofs.YtgebcnnenhgkcaaGreat
/- prove, Proof: the shortest proof of a final block, in new memory. -/
namespace Go.Proofs.YtgebcnnenhgkcaaGreat
open Go.RowKit Go.Shelf

theorem LinksAt.snoc {V W : World} {base : Nat} {v v3 : Value} {X : List LkV} {l : Lk} {u : Value} (h : LinksAt V base v X) (hu : V.ownsRow base 3 1 u l.vs.length (l.vs.map I64)) (hnew : ∀ x ∈ X, ∀ k, x.2.ownBlock = some k → u.ownBlock ≠ some k)
    (hown : W.ownsRow base 121 3 v3 (X.length + 1) (lvRow X ++ [I64 l.s, I64 l.t, u])) (hgrow : V.grownBy W v.ownBlock) : LinksAt W base v3 (X ++ [(l, u)]) := by
  have hcg : Chg (fun k => v.ownBlock = some k) V W := (Chg.refl _ V).grown hgrow (fun k e => .inl e)
  have ap : ∀ {z : Value} {m : Nat} {ys : List Value}, V.ownsRow base 3 1 z m ys → ∀ k, z.ownBlock = some k → ¬ v.ownBlock = some k := fun hz k hk e => by
    obtain ⟨c1, e1⟩ := row_type (row_low hz) hk
    exact not_row (row_low h.row) e1 (by decide) e
  refine ⟨?_, fun y hy => ?_, ?_⟩
  · rw [lvRow_append, List.length_append]
    exact hown
  · rcases List.mem_append.1 hy with h1 | h1
    · exact hcg.row (h.each y h1) (ap (h.each y h1))
    · simp only [List.mem_singleton] at h1
      subst h1
      exact hcg.row hu (ap hu)
  · rw [List.pairwise_append]
    refine ⟨h.apart, by simp, fun y hy z hz k hk => ?_⟩
    simp only [List.mem_singleton] at hz
    subst hz
    exact hnew y hy k hk

/-- The proof that is given: the links of the way, and the last one. -/
def proofL (ws ps : List Int) (vs : List Vt) (b c : Int) : List Lk := ((walkS (linkB ws vs) (stAt (stepsC ws ps vs)) b (up ps b)).2.reverse).map (mkL ws vs) ++ [mkL ws vs (b, c)]

/-- What Proof answers of a block: the error, and the links. -/
def ProofOf (ws ps : List Int) (vs : List Vt) (a er : Int) (L : List Lk) : Prop :=
  (hasB ps.length a = false ∧ er = 4 ∧ L = []) ∨ (hasB ps.length a = true ∧ (isJust ws ps vs a = false ∨ childF ws ps vs a = none) ∧ er = 8 ∧ L = []) ∨ (hasB ps.length a = true ∧ isJust ws ps vs a = true ∧ ∃ c, childF ws ps vs a = some c ∧ er = 0 ∧ L = proofL ws ps vs a c)
theorem stepsC_bounds {ws ps : List Int} {vs : List Vt} (hT : Tree ps) (j : Nat) : 0 ≤ (stepsC ws ps vs)[j]?.getD 0 ∧ (stepsC ws ps vs)[j]?.getD 0 ≤ 40 := stepsL_bounds _ _ hT _ (Nat.le_refl _) j

set_option maxRecDepth 100000 in
set_option maxHeartbeats 4000000 in
theorem prove_at (b : Nat) (S : Nat → Prop) (m : Int) (ws ps : List Int) (vs : List Vt) (wv pv vv : Value) (a : Int) (w : World) (h : CourtAt w b S m ws ps vs wv pv vv) (hT : Tree ps) (hW : OkWs ws) (hl : vs.length ≤ 300) (hO : OkV ws.length ps vs) :
    Calls Tryz.prog 59 #[.pointer (some ⟨b, 0, none⟩), .int .i64 a] w fun e w' => (∃ v X er, e = .returned (.tuple #[v, .int .i64 er]) ∧ LinksAt w' w.heap.size v X ∧
      ProofOf ws ps vs a er (X.map (fun x => x.1))) ∧ Below w.heap.size w w' := by
  obtain ⟨g0, cap0, rfl, _, _, hcs0, _⟩ := row_open h.prow hT.1
  obtain ⟨i0, hi, hz0, hz1, hz2⟩ := info_parts info_link
  have h3 := h.c3
  have hw12 := hW.le
  have hT2 := hT.2.1
  clear hcs0
  cases hh : hasB ps.length a with
  | false =>
    have HH : Hid (hasB ps.length a = false) := hh
    go_enter Tryz.func59, Tryz.ntmps59
    go_wp2_with fail
    refine (has_at b 3 _ _ _ a _ h3).mono ?_
    rintro e w1 ⟨rfl, rfl⟩
    rw [hh]
    go_wp2
    go_ret2
    exact ⟨⟨_, [], 4, rfl, LinksAt.nil _ _, .inl ⟨HH.out, rfl, rfl⟩⟩, Below.refl _ _⟩
  | true =>
    have ha : 0 ≤ a ∧ a < ps.length := by simpa [hasB] using hh
    have HH : Hid (hasB ps.length a = true) := hh
    go_enter Tryz.func59, Tryz.ntmps59
    go_wp2_with fail
    refine (has_at b 3 _ _ _ a _ h3).mono ?_
    rintro e w1 ⟨rfl, rfl⟩
    rw [hh]
    clear hh
    go_wp2_with fail
    refine (steps_at b S m ws ps vs _ _ _ _ h hT hW hl hO).mono ?_
    rintro e w2 ⟨⟨g, rfl, hg, hN⟩, hB2⟩
    have h2 := h.kept (Chg.of_below (fun _ => False) hB2) (fun _ _ hf => hf)
    have hgl := hN.lt
    have hcells : ∀ j, j < ps.length → w2.cell? ⟨g, j, none⟩ = some (I64 ((stepsC ws ps vs)[j]?.getD 0)) := fun j hj => by
      have hjl : j < (stepsC ws ps vs).length := by rw [stepsC_length]; exact hj
      have := (hN.cell (j := j) (by simpa using hjl)).1
      rw [this]
      congr 2
      rw [getElem!_pos _ _ (by simpa using hjl)]
      simp [List.getElem?_eq_getElem hjl]
    go_wp2_with fail
    refine (linkedChild_at b S m ws ps vs _ _ _ a _ h2 hT hW hl hO).mono ?_
    rintro e w3 ⟨rfl, hB3⟩
    have h3' := h2.kept (Chg.of_below (fun _ => False) hB3) (fun _ _ hf => hf)
    have hBw : Below w1.heap.size w1 w3 := hB2.trans (hB3.mono hB2.size)
    have hcells3 : ∀ j, j < ps.length → w3.cell? ⟨g, j, none⟩ = some (I64 ((stepsC ws ps vs)[j]?.getD 0)) := fun j hj => (hB3.cell (p := ⟨g, j, none⟩) hgl).trans (hcells j hj)
    have hca := hcells3 a.toNat (by omega)
    obtain ⟨sa, hsa⟩ : ∃ sa, (stepsC ws ps vs)[a.toNat]?.getD 0 = sa := ⟨_, rfl⟩
    rw [hsa] at hca
    have HJ : Hid (isJust ws ps vs a = (sa != 40)) := by show _ = _; unfold isJust stAt; rw [hsa]
    have HCL : Hid _ := hcells3
    have HCH : Hid (childF ws ps vs a = childF ws ps vs a) := rfl
    clear hsa hcells hcells3 h3
    by_cases h40 : sa = 40
    · have q1 : (sa == 40) = true := by simpa using h40
      have HJ' : Hid (isJust ws ps vs a = false) := by show _ = _; rw [HJ.out, h40]; rfl
      clear h40 HJ
      go_wp2
      go_ret2
      exact ⟨⟨_, [], 8, rfl, LinksAt.nil _ _, .inr (.inl ⟨HH.out, .inl HJ'.out, rfl, rfl⟩)⟩, hBw⟩
    · have q1 : (sa == 40) = false := by simpa using h40
      have HJ' : Hid (isJust ws ps vs a = true) := by show _ = _; rw [HJ.out]; simpa using h40
      clear h40 HJ HCH
      cases hch : childF ws ps vs a with
      | none =>
        have HCN : Hid (childF ws ps vs a = none) := hch
        clear hch
        go_wp2
        go_ret2
        exact ⟨⟨_, [], 8, rfl, LinksAt.nil _ _, .inr (.inl ⟨HH.out, .inr HCN.out, rfl, rfl⟩)⟩, hBw⟩
      | some c =>
        have HCS : Hid (childF ws ps vs a = some c) := hch
        clear hch
        go_wp2_with fail
        refine (pathTo_at b S m ws ps (stepsC ws ps vs) vs _ _ _ g ps.length a _ h3' hT hW hl hO HCL.out (stepsC_bounds hT) ha.1 (by omega)).mono ?_
        rintro e w4 ⟨⟨v, X, rfl, hL4, hX⟩, hB4⟩
        have HX : Hid _ := hX
        have hXl : X.length ≤ 40 := by
          have h1 := congrArg List.length hX
          have h2 := walkS_length (linkB ws vs) (stAt (stepsC ws ps vs)) a (up ps a)
          have h3 := (ht_bounds hT ha.1 (by omega)).2
          unfold ht at h3
          simp at h1
          omega
        clear hX
        have h4' := h3'.kept (Chg.of_below (fun _ => False) hB4) (fun _ _ hf => hf)
        go_wp2_with fail
        refine (link_at b S m ws ps vs _ _ _ a c _ h4' hw12 hl hO).mono ?_
        rintro e w5 ⟨⟨u, rfl, hru⟩, hB5⟩
        have hL5 := hL4.below hB5 (Nat.le_refl _)
        obtain ⟨pu, cu, hu⟩ := row_slice hru
        subst hu
        obtain ⟨pX, cX, hv⟩ := row_slice hL5.row
        subst hv
        have hz5 := hB5.size
        have hz4 := hB4.size
        have hz3 := hBw.size
        have hBw5 : Below w1.heap.size w1 w5 := (hBw.trans (hB4.mono hBw.size)).trans (hB5.mono (by omega))
        have h63 : Hid (X.length + 1 ≤ maxLen) := by show _ ≤ _; unfold maxLen; omega
        go_wp2_with (at_builtin; refine wpList_append_own _ (by rfl) _ _ _ (by rfl) w1.heap.size 121 i0 (.agg #[I64 0, I64 0, .slice none 0 0]) 3 40 Tryz.underlying69 hi hz0 hz1 hz2 rfl (by omega) _ X.length (lvRow X) (by rfl) ((row_lower hL5.row hz3).alloc _) ⟨w5.heap.size, 0, none⟩ 1 1 [I64 a, I64 c, .slice pu (votersL ws.length vs a c).length cu] (by rfl) (by rfl) (cells_one _ #[I64 a, I64 c, .slice pu (votersL ws.length vs a c).length cu] _) (by simp [Value.oneCell']) h63.out (by omega) (by simp; omega) ?_; intro v6 w6 hown6 hgrow6 hnil6)
        obtain ⟨p6, c6, hv6⟩ := row_slice hown6
        subst hv6
        have hL6 := (LinksAt.snoc (l := mkL ws vs (a, c)) ((hL5.lower hz3).below ((Below.refl w5.heap.size w5).alloc (Nat.le_refl _) (.cells #[I64 a, I64 c, .slice pu (votersL ws.length vs a c).length cu] 121)) (Nat.le_refl _)) ((row_lower hru (by omega)).alloc _) (fun x hx k hk e => by have h1 := ((hL4.each x hx).lt k hk).2; have h2 := (hru.lt k e).1; omega) hown6 hgrow6)
        go_ret2
        refine ⟨⟨_, _, 0, rfl, hL6, .inr (.inr ⟨HH.out, HJ'.out, c, HCS.out, rfl, ?_⟩)⟩, (hBw5.alloc hBw5.size _).grown hgrow6 (by simp; omega) (fun j e => by have := (hL5.row.lt j e).1; omega)⟩
        rw [List.map_append, HX.out]
        rfl

set_option maxHeartbeats 1000000 in
theorem proof_at (b : Nat) (S : Nat → Prop) (ws ps : List Int) (vs : List Vt) (wv pv vv : Value) (a : Int) (w : World) (h : CourtAt w b S 0 ws ps vs wv pv vv) (hT : Tree ps) (hW : OkWs ws) (hl : vs.length ≤ 300) (hO : OkV ws.length ps vs) :
    Calls Tryz.prog 24 #[.pointer (some ⟨b, 0, none⟩), .int .i64 a] w fun e w' => (∃ v X er, e = .returned (.tuple #[v, .int .i64 er]) ∧ LinksAt w' w.heap.size v X ∧
      ProofOf ws ps vs a er (X.map (fun x => x.1))) ∧ CourtAt w' b S 0 ws ps vs wv pv vv ∧ Chg S w w' := by
  obtain ⟨gw, capw, rfl, _, _, _, _⟩ := row_open h.wrow hW.pos
  obtain ⟨h1, c1⟩ := h.setM 1
  have hd : decide (0 < ws.length) = true := by simpa using hW.pos
  go_enter_defers Tryz.func24, Tryz.ntmps24
  go_wp2_with fail
  refine (lock_at b 0 _ h.c0 (h.fz 0)).mono ?_
  rintro e w1 ⟨rfl, hw1⟩
  rw [← hw1] at h1 c1
  clear hw1
  go_wp2_with fail
  refine (made_at b 0 _ _ _ _ h1.c2).mono ?_
  rintro e w2 ⟨rfl, rfl⟩
  rw [hd]
  go_wp2_with fail
  refine (prove_at b S 1 ws ps vs _ pv vv a _ h1 hT hW hl hO).mono ?_
  rintro e w4 ⟨⟨v, X, er, rfl, hL4, hcs⟩, hB5⟩
  have HCS : Hid _ := hcs
  clear hcs
  have h4 := h1.kept (Chg.of_below (fun _ => False) hB5) (fun _ _ hf => hf)
  have hlb := h1.lt b h1.inb
  obtain ⟨pX, cX, hv⟩ := row_slice hL4.row
  subst hv
  go_wp2_with fail
  refine leaves_cons (f := 33) (args := #[.pointer (some ⟨b, 0, none⟩)]) (by simp) (by simp [go_sem]) ?_
  refine (unlock_at b 0 .returning _ h4.c0 (h4.fz 0)).mono ?_
  rintro e u' w'' ⟨rfl, rfl, rfl⟩
  obtain ⟨h5, c5⟩ := h4.setM 0
  have hcb : Chg (fun k => k = b) w4 (w4.setCell ⟨b, 0, none⟩ (.int .i32 0)) := (Chg.refl (fun k => k = b) w4).setCell (p := ⟨b, 0, none⟩) (.inl rfl) _
  have hL5 := hL4.kept hcb (fun k hk e => by have := (hL4.row.lt k hk).1; omega) (fun x hx k hk e => by have := ((hL4.each x hx).lt k hk).1; omega)
  refine ⟨.tuple #[.slice pX X.length cX, .int .i64 er], ?_, ⟨_, X, er, rfl, hL5.lower c1.size, HCS.out⟩, h5, (c1.trans (Chg.of_below S hB5)).trans c5⟩
  simp [results, Tryz.f24]
end Go.Proofs.YtgebcnnenhgkcaaGreat
/- Plain mathematics: if two blocks that do not agree are final, a third of all weight is guilty. Nothing of the program is named here but by the plain functions that its calls answer. -/
namespace Go.Proofs.YtgebcnnenhgkcaaGreat

/-! Sums over voters -/
def isum (f : Nat → Int) : Nat → Int
  | 0 => 0
  | n + 1 => isum f n + f n
/-! The tree -/
theorem up_trans {ps : List Int} (hT : Tree ps) : ∀ (n : Nat) (b : Int), 0 ≤ b → b.toNat < ps.length → b.toNat ≤ n → ∀ x ∈ up ps b, ∀ y ∈ up ps x, y ∈ up ps b := by
  intro n
  induction n with
  | zero =>
    intro b h0 hl hn x hx
    have : b = 0 := by omega
    subst this; simp [up_zero] at hx
  | succ n ih =>
    intro b h0 hl hn x hx y hy
    by_cases hb : b = 0
    · subst hb; simp [up_zero] at hx
    · have hp := hT.2.2.2 b.toNat (by omega) hl
      rw [up_step hT (by omega) hl, List.mem_cons] at hx ⊢
      rcases hx with rfl | hx
      · exact .inr hy
      · exact .inr (ih _ hp.1 (by omega) (by omega) x hx y hy)
/-! What is just, by links -/
theorem just_by {ws ps : List Int} {vs : List Vt} (hT : Tree ps) {b : Int} (h0 : 0 < b) (hl : b.toNat < ps.length) (h : isJust ws ps vs b = true) : ∃ s ∈ up ps b, linkB ws vs s b = true ∧ isJust ws ps vs s = true := by
  have hD : IsSteps (linkB ws vs) ps (stAt (stepsC ws ps vs)) := stepsL_is (linkB ws vs) hT
  unfold isJust at h
  have hne : stAt (stepsC ws ps vs) b ≠ 40 := by simpa using h
  have hle := hD.le b (by omega) hl
  obtain ⟨s, hs, hlk, he⟩ := hD.by' b h0 hl (by omega)
  exact ⟨s, hs, hlk, by unfold isJust; simp; omega⟩

structure Fin' (ws ps : List Int) (vs : List Vt) (a : Int) (c : Int) : Prop where
  a0 : 0 ≤ a
  a1 : a.toNat < ps.length
  c0 : 0 < c
  c1 : c.toNat < ps.length
  par : ps[c.toNat]?.getD 0 = a
  lk : linkB ws vs a c = true
  just : isJust ws ps vs a = true
/-- Going down the links that make b just there is one that passes a's height. -/
theorem passes {ws ps : List Int} {vs : List Vt} (hT : Tree ps) (H : Int) (hH : 0 ≤ H) (b : Int) : ∀ (n : Nat) (x y : Int), 0 ≤ x → x.toNat < ps.length → x.toNat ≤ n → (x = b ∨ x ∈ up ps b) → isJust ws ps vs x = true → linkB ws vs x y = true → H < ht ps y → 0 ≤ b → b.toNat < ps.length →
    ∃ s t, (s = b ∨ s ∈ up ps b) ∧ 0 ≤ s ∧ s.toNat < ps.length ∧ isJust ws ps vs s = true ∧ linkB ws vs s t = true ∧ ht ps s ≤ H ∧ H < ht ps t := by
  intro n
  induction n with
  | zero =>
    intro x y h0 hl hn hline hj hlk hy hb0 hbl
    have : x = 0 := by omega
    subst this
    exact ⟨0, y, hline, by omega, hl, hj, hlk, by show ht ps 0 ≤ H; exact hH, hy⟩
  | succ n ih =>
    intro x y h0 hl hn hline hj hlk hy hb0 hbl
    by_cases hx : ht ps x ≤ H
    · exact ⟨x, y, hline, h0, hl, hj, hlk, hx, hy⟩
    · have hx0 : 0 < x := by
        by_cases e : x = 0
        · subst e; exact absurd hH hx
        · omega
      obtain ⟨s, hs, hsl, hsj⟩ := just_by hT hx0 hl hj
      have hsb := mem_up_lt hT h0 hl hs
      refine ih s x hsb.1 (by omega) (by omega) ?_ hsj hsl (by omega) hb0 hbl
      rcases hline with rfl | hline
      · exact .inr hs
      · exact .inr (up_trans hT b.toNat b hb0 hbl (Nat.le_refl _) x hline s hs)

/-- The guilty voters. -/
def guiltyV (n : Nat) (ps : List Int) (vs : List Vt) : List Int := ((List.range n).map (fun i : Nat => (i : Int))).filter (fun v => (guiltV ps vs v).isSome)
end Go.Proofs.YtgebcnnenhgkcaaGreat
