/- The document's own Court: who voted for a link, and what is enough. -/
import Derived.Test.YtgebcnnenhgkcaaGreatRefV
import Derived.Test.YtgebcnnenhgkcaaGreatEnoughA
namespace Go.Proofs.YtgebcnnenhgkcaaGreat
open Go.RowKit

theorem refAll_at (b : Nat) (S : Nat → Prop) (ws ps : List Int) (vs : List Vt) (wv pv vv : Value) (w : World) (h : RefAt w b S ws ps vs wv pv vv) (hW : OkWs ws) :
    Calls Tryz.prog 135 #[.pointer (some ⟨b, 0, none⟩)] w fun e w' => e = .returned (.int .i64 (sumI ws)) ∧ w' = w := by
  have h0 := h.c0
  obtain ⟨gw, capw, rfl, _, _, hcw, _⟩ := row_open h.wrow hW.pos
  have HX : Hid (∀ j, j < ws.length → w.cell? ⟨gw, j, none⟩ = some (I64 (ws[j]?.getD 0))) := hcw
  clear hcw
  have hl := hW.le
  have HW : Hid (∀ x ∈ ws, 1 ≤ x ∧ x ≤ 100) := hW.at'
  go_enter Tryz.func135, Tryz.ntmps135
  go_wp2
  go_loop [3, 4] (fun t i => ∃ (k : Nat) (n : Int), k ≤ ws.length ∧ i = .int .i64 k ∧ t = .int .i64 n ∧ Hid (n = sumI (ws.take k)) ∧ 0 ≤ n ∧ n ≤ 100 * k) (fun _ i => ws.length - (intOf i).toNat)
  case atStart => exact ⟨0, 0, by omega, rfl, rfl, by simp [Hid, sumI_nil], by omega, by omega⟩
  case round =>
    obtain ⟨k, n, hk, rfl, rfl, hn, hn0, hn1⟩ := hrel
    by_cases hlt : k < ws.length
    · have hlt' : (k : Int) < (ws.length : Int) := by omega
      obtain ⟨x, hxk⟩ : ∃ x, ws[k]? = some x := ⟨_, List.getElem?_eq_getElem hlt⟩
      have hc : w.cell? ⟨gw, k, none⟩ = some (I64 x) := by rw [HX.out k hlt, hxk]; rfl
      have hb := HW.out x (List.mem_of_getElem? hxk)
      have HN : Hid (n + x = sumI (ws.take (k + 1))) := by show _ = _; rw [sumI_take _ _ _ hxk, hn.out]
      clear hxk
      go_wp2
      go_round
      case rel => exact ⟨k + 1, n + x, by omega, by go_num, by go_num, HN, by omega, by omega⟩
      case measure => simp [intOf]; omega
    · go_wp2
      go_ret
      have hn' := hn.out
      rw [List.take_of_length_le (by omega)] at hn'
      exact ⟨by rw [← hn']; rfl, rfl⟩

theorem refEnough_at (b : Nat) (S : Nat → Prop) (ws ps : List Int) (vs : List Vt) (wv pv vv v : Value) (l : List Int) (w : World) (h : RefAt w b S ws ps vs wv pv vv) (hW : OkWs ws) (hr : w.ownsRow 0 3 1 v l.length (l.map I64)) (hl : ∀ v ∈ l, 0 ≤ v ∧ v < ws.length) (hl2 : l.length ≤ 300) :
    Calls Tryz.prog 110 #[.pointer (some ⟨b, 0, none⟩), v] w fun e w' => e = .returned (.bool (decide (2 * sumI ws ≤ 3 * wSum ws l))) ∧ Below w.heap.size w w' := by
  obtain ⟨vp, vc, hvv⟩ : ∃ vp vc, v = .slice vp l.length vc := by
    rcases hr.2 with ⟨h', h''⟩ | ⟨g, cap, cur, h', _⟩
    · exact ⟨none, 0, by rw [h', h'']⟩
    · exact ⟨_, _, h'⟩
  subst hvv
  have h0 := h.c0
  have hall := refAll_at b S ws ps vs wv pv vv
  have hH := h
  obtain ⟨gw, capw, rfl, _, _, hcw, _⟩ := row_open h.wrow hW.pos
  have HX : Hid (∀ j, j < ws.length → w.cell? ⟨gw, j, none⟩ = some (I64 (ws[j]?.getD 0))) := hcw
  clear hcw
  have HL : Hid (∀ v ∈ l, 0 ≤ v ∧ v < ws.length) := hl
  clear hl
  have hle := hW.le
  go_enter Tryz.func110, Tryz.ntmps110
  go_wp2
  go_loopw [5, 6] (fun t i wr => ∃ (k : Nat) (n : Int) (d : Nat), k ≤ l.length ∧ i = .int .i64 k ∧ t = .int .i64 n ∧ wr = w.drewN d ∧ Hid (n = wSum ws (l.take k)) ∧ 0 ≤ n ∧ n ≤ 100 * k) (fun _ i _ => l.length - (intOf i).toNat)
  case atStart => exact ⟨0, 0, 0, by omega, rfl, rfl, rfl, by simp [Hid, wSum, sumI_nil], by omega, by omega⟩
  case round =>
    obtain ⟨k, n, d, hk, rfl, rfl, rfl, hn, hn0, hn1⟩ := hrel
    by_cases hlt : k < l.length
    · have hlt' : (k : Int) < (l.length : Int) := by omega
      obtain ⟨gl, capl, hgl, _, _, hcl, _⟩ := row_open hr (by omega)
      simp only [Value.slice.injEq, true_and] at hgl
      obtain ⟨rfl, rfl⟩ := hgl
      obtain ⟨y, hy⟩ : ∃ y, l[k]? = some y := ⟨_, List.getElem?_eq_getElem hlt⟩
      have hc : w.cell? ⟨gl, k, none⟩ = some (I64 y) := by rw [hcl k hlt, hy]; rfl
      obtain ⟨y0, y1⟩ := HL.out y (List.mem_of_getElem? hy)
      obtain ⟨x, hxk⟩ : ∃ x, wAt ws y = x := ⟨_, rfl⟩
      have hcx : w.cell? ⟨gw, y.toNat, none⟩ = some (I64 x) := by rw [← hxk]; exact HX.out _ (by omega)
      obtain ⟨hb0, hb1⟩ := hW.wAt (v := y) (by omega)
      rw [hxk] at hb0 hb1
      have HN : Hid (n + x = wSum ws (l.take (k + 1))) := by show _ = _; rw [wSum_take _ _ _ _ hy, hn.out, hxk]
      clear hxk hcl hy
      have hwr : IntKind.i64.wrap (n + x) = n + x := Go.IntWalk.i64_in _ (by omega)
      go_wp2
      go_quiet (fail)
      go_wp2
      go_roundw
      case rel => exact ⟨k + 1, n + x, _, by omega, by go_num, by go_num, rfl, HN, by omega, by omega⟩
      case measure => simp [intOf]; omega
    · have hn' := hn.out
      rw [List.take_of_length_le (by omega)] at hn'
      have HN : Hid (n = wSum ws l) := hn'
      clear hn hn'
      obtain ⟨hs0, hs1⟩ := hW.sum
      have hd : RefAt (w.drewN d) b S ws ps vs _ pv vv := h.kept (Chg.of_below (fun _ => False) (below_drewN (Below.refl _ w) d)) (fun _ _ hf => hf)
      go_wp2_with fail
      refine (hall _ hd hW).mono ?_
      rintro e w2 ⟨rfl, rfl⟩
      obtain ⟨T, hT⟩ : ∃ T, sumI ws = T := ⟨_, rfl⟩
      rw [hT] at hs0 hs1 ⊢
      have HT : Hid (sumI ws = T) := hT
      clear hT hall
      go_wp2
      go_ret
      exact ⟨by rw [← HN.out, HT.out]; rfl, below_drewN (Below.refl _ w) d⟩

set_option maxRecDepth 100000 in
set_option maxHeartbeats 2000000 in
theorem refVoters_at (b : Nat) (S : Nat → Prop) (ws ps : List Int) (vs : List Vt) (wv pv vv : Value) (s t : Int) (w : World) (h : RefAt w b S ws ps vs wv pv vv) (hW : OkWs ws) (hl : vs.length ≤ 300) (hO : OkV ws.length ps vs) :
    Calls Tryz.prog 82 #[.pointer (some ⟨b, 0, none⟩), .int .i64 s, .int .i64 t] w fun e w' => (∃ v, e = .returned v ∧ w'.ownsRow w.heap.size 3 1 v (votersL ws.length vs s t).length ((votersL ws.length vs s t).map I64)) ∧ Below w.heap.size w w' := by
  have h0 := h.c0
  have h2 := h.c2
  have hbl := h.lt b h.inb
  obtain ⟨i0, hi, hz0, hz1, hz2⟩ := info_parts info_int
  obtain ⟨gw, capw, rfl, _, _, _, _⟩ := row_open h.wrow hW.pos
  obtain ⟨vp, vc, hvv⟩ : ∃ vp vc, vv = .slice vp vs.length vc := by
    rcases h.vrow.2 with ⟨h', h''⟩ | ⟨g, cap, cur, h', _⟩
    · exact ⟨none, 0, by rw [h', h'']⟩
    · exact ⟨_, _, h'⟩
  subst hvv
  have hle := hW.le
  have HO : Hid (OkV ws.length ps vs) := hO
  clear hO
  go_enter Tryz.func82, Tryz.ntmps82
  go_wp2
  go_loopw [7, 8] (fun v i wr => ∃ k : Nat, k ≤ ws.length ∧ i = .int .i64 k ∧ Below w.heap.size w wr ∧ (votersL k vs s t).length ≤ k * 300 ∧ wr.ownsRow w.heap.size 3 1 v (votersL k vs s t).length ((votersL k vs s t).map I64)) (fun _ i _ => ws.length - (intOf i).toNat)
  case atStart => exact ⟨0, by omega, rfl, Below.refl _ _, Nat.le_refl _, World.ownsRow_nil _ _ _ _⟩
  case round =>
    obtain ⟨k, hk, rfl, hB, hvl, hown⟩ := hrel
    have r0 : wr.cell? ⟨b, 0, none⟩ = some (.slice (some ⟨gw, 0, none⟩) ws.length capw) := (hB.cell (p := ⟨b, 0, none⟩) hbl).trans h0
    by_cases hlt : k < ws.length
    · have hlt' : (k : Int) < (ws.length : Int) := by omega
      have HS : Hid _ := votersL_succ k vs s t
      obtain ⟨Z, hZ⟩ : ∃ Z, votersL k vs s t = Z := ⟨_, rfl⟩
      rw [hZ] at hown hvl
      have HZ : Hid (votersL k vs s t = Z) := hZ
      clear hZ
      go_wp2
      go_loopw [7, 9] (fun v i wr2 => ∃ j : Nat, j ≤ vs.length ∧ i = .int .i64 j ∧ Below w.heap.size w wr2 ∧ wr2.ownsRow w.heap.size 3 1 v (Z ++ voterL (vs.take j) s t k).length ((Z ++ voterL (vs.take j) s t k).map I64)) (fun _ i _ => vs.length - (intOf i).toNat)
      case atStart => exact ⟨0, by omega, rfl, hB, by simpa [voterL] using hown⟩
      case round =>
        clear hB hown r0
        obtain ⟨j, hj, rfl, hB, hown⟩ := hrel
        have hz := hB.size
        have r2 : wr.cell? ⟨b, 2, none⟩ = some (.slice vp vs.length vc) := (hB.cell (p := ⟨b, 2, none⟩) hbl).trans h2
        by_cases hjl : j < vs.length
        · have hjl' : (j : Int) < (vs.length : Int) := by omega
          obtain ⟨gv, cap, hgv, _, _, hc, _⟩ := vrow_open h.vrow (by omega)
          simp only [Value.slice.injEq, true_and] at hgv
          obtain ⟨rfl, rfl⟩ := hgv
          have hgl : gv < w.heap.size := VCells.lt hc (by omega)
          obtain ⟨y, hy⟩ : ∃ y, vs[j]? = some y := ⟨_, List.getElem?_eq_getElem hjl⟩
          obtain ⟨hc0, hc1, hc2⟩ := VCells.below hc hB hgl j y hy
          have HN : Hid (voterL (vs.take (j + 1)) s t k = voterL (vs.take j) s t k ++ (if (y.v == (k : Int) && (y.s == s && y.t == t)) = true then [(k : Int)] else [])) := by
            show _ = _
            rw [List.take_add_one, hy]
            unfold voterL
            by_cases e : (y.v == (k : Int) && (y.s == s && y.t == t)) = true
            · simp only [List.filter_append, List.map_append, Option.toList_some, List.filter_cons, e, if_true, List.filter_nil, List.map_cons, List.map_nil]
            · simp only [List.filter_append, List.map_append, Option.toList_some, List.filter_cons, e, List.filter_nil]; simp
          clear hc hy
          have hbr : b < wr.heap.size := by omega
          have hBn := hB.alloc hz (.cells #[I64 y.v, I64 y.s, I64 y.t] 47)
          have hVl : (voterL (vs.take j) s t k).length ≤ j := by
            unfold voterL
            rw [List.length_map]
            exact Nat.le_trans (List.length_filter_le _ _) (by simp; omega)
          obtain ⟨V, hV⟩ : ∃ V, voterL (vs.take j) s t k = V := ⟨_, rfl⟩
          rw [hV] at hown hVl
          have HV : Hid (voterL (vs.take j) s t k = V) := hV
          clear hV
          have hno : (y.v == (k : Int) && (y.s == s && y.t == t)) = false → Hid (voterL (vs.take (j + 1)) s t k = V) := fun e => by show _ = _; rw [HN.out, HV.out, e]; simp
          by_cases e1 : y.v = (k : Int)
          · have q1 : (y.v == (k : Int)) = true := by simpa using e1
            by_cases e2 : y.s = s
            · have q2 : (y.s == s) = true := by simpa using e2
              by_cases e3 : y.t = t
              · have q3 : (y.t == t) = true := by simpa using e3
                have HN' : Hid (voterL (vs.take (j + 1)) s t k = V ++ [(k : Int)]) := by show _ = _; rw [HN.out, HV.out, q1, q2, q3]; simp
                clear HN e1 e2 e3 hno
                have hlen : (Z ++ V).length ≤ 4000 := by simp; omega
                obtain ⟨ZV, hZV⟩ : ∃ q, Z ++ V = q := ⟨_, rfl⟩
                rw [hZV] at hown hlen
                have HZV : Hid (Z ++ V = ZV) := hZV
                clear hZV
                have h63 : Hid (ZV.length + 1 ≤ maxLen) := by show _ ≤ _; unfold maxLen; omega
                go_wp2_with (at_builtin; refine wpList_append_own _ (by rfl) _ _ _ (by rfl) w.heap.size 3 i0 (I64 0) 1 8 Tryz.underlying22 hi hz0 hz1 hz2 rfl (by omega) _ ZV.length (ZV.map I64) (by rfl) ((hown.alloc _).alloc _) ⟨wr.heap.size + 1, 0, none⟩ 1 1 [I64 k] (by rfl) (by rfl) (cell_two_new _ _ _ _) (by simp [Value.oneCell']) h63.out (by omega) (by simp; omega) ?_; intro v1 w1 hown1 hgrow1 hnil1)
                go_roundw
                case rel => exact ⟨j + 1, by omega, by go_num, (hBn.alloc (by simp; omega) _).grown hgrow1 (by simp; omega) (fun q e => (hown.lt q e).1), by rw [HN'.out, ← List.append_assoc, HZV.out, List.map_append, List.length_append]; exact hown1⟩
                case measure => simp [intOf]; omega
              · have q3 : (y.t == t) = false := by simpa using e3
                have HN' := hno (by rw [q1, q2, q3]; rfl)
                clear HN e1 e2 e3 hno
                go_wp2
                go_roundw
                case rel => exact ⟨j + 1, by omega, by go_num, hBn, by rw [HN'.out]; exact hown.alloc _⟩
                case measure => simp [intOf]; omega
            · have q2 : (y.s == s) = false := by simpa using e2
              have HN' := hno (by rw [q1, q2]; rfl)
              clear HN e1 e2 hno
              go_wp2
              go_roundw
              case rel => exact ⟨j + 1, by omega, by go_num, hBn, by rw [HN'.out]; exact hown.alloc _⟩
              case measure => simp [intOf]; omega
          · have q1 : (y.v == (k : Int)) = false := by simpa using e1
            have HN' := hno (by rw [q1]; rfl)
            clear HN e1 hno
            go_wp2
            go_roundw
            case rel => exact ⟨j + 1, by omega, by go_num, hBn, by rw [HN'.out]; exact hown.alloc _⟩
            case measure => simp [intOf]; omega
        · have hj' : j = vs.length := by omega
          subst hj'
          rw [List.take_length] at hown
          have hVl : (voterL vs s t k).length ≤ 300 := by
            unfold voterL
            rw [List.length_map]
            exact Nat.le_trans (List.length_filter_le _ _) hl
          go_wp2
          go_roundw
          case rel => exact ⟨k + 1, by omega, by go_num, hB, by rw [HS.out, HZ.out, List.length_append]; omega, by rw [HS.out, HZ.out]; exact hown⟩
          case measure => simp [intOf]; omega
    · have hk' : k = ws.length := by omega
      subst hk'
      go_wp2
      go_ret
      exact ⟨⟨_, rfl, hown⟩, hB⟩
end Go.Proofs.YtgebcnnenhgkcaaGreat
