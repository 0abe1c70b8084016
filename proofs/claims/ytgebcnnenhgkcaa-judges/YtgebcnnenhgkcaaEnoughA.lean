/- What is enough: the weight of voters, of all, and of those who voted for a link. -/
import Derived.Test.YtgebcnnenhgkcaaVotersA
import Derived.Deep.RegionHeld3
namespace Go.Proofs.Ytgebcnnenhgkcaa
open Go.RowKit

/-- What weights are. -/
structure OkWs (ws : List Int) : Prop where
  pos : 0 < ws.length
  le : ws.length ≤ 12
  at' : ∀ x ∈ ws, 1 ≤ x ∧ x ≤ 100
theorem okWs_of {ws : List Int} (h : okW ws = true) : OkWs ws := by
  simp only [okW, Bool.and_eq_true, decide_eq_true_eq, List.all_eq_true] at h
  exact ⟨h.1.1, h.1.2, h.2⟩
theorem OkWs.wAt {ws : List Int} (h : OkWs ws) {v : Int} (h1 : v.toNat < ws.length) : 1 ≤ wAt ws v ∧ wAt ws v ≤ 100 := by
  unfold Proofs.Ytgebcnnenhgkcaa.wAt
  rw [List.getElem?_eq_getElem h1]
  exact h.at' _ (List.getElem_mem h1)
theorem OkWs.sum {ws : List Int} (h : OkWs ws) : 0 < sumI ws ∧ sumI ws ≤ 1200 := by
  refine ⟨sumI_pos (fun x hx => (h.at' x hx).1) h.pos, ?_⟩
  have := (sumI_bounds (l := ws) (m := 100) (fun x hx => ⟨by have := (h.at' x hx).1; omega, (h.at' x hx).2⟩)).2
  have := h.le
  omega
theorem OkWs.wSum {ws l : List Int} (h : OkWs ws) (hl : ∀ v ∈ l, 0 ≤ v ∧ v < ws.length) : 0 ≤ wSum ws l ∧ wSum ws l ≤ 100 * l.length := by
  have := sumI_bounds (l := l.map (Proofs.Ytgebcnnenhgkcaa.wAt ws)) (m := 100) (fun x hx => by
    obtain ⟨v, hv, rfl⟩ := List.mem_map.1 hx
    have h1 := hl v hv
    have := h.wAt (v := v) (by omega)
    omega)
  simpa [Proofs.Ytgebcnnenhgkcaa.wSum] using this

theorem total_at (g c : Nat) (ws : List Int) (w : World) (hx : ∀ j, j < ws.length → w.cell? ⟨g, j, none⟩ = some (I64 (ws[j]?.getD 0))) (hW : OkWs ws) :
    Calls Try.prog 119 #[.slice (some ⟨g, 0, none⟩) ws.length c] w fun e w' => e = .returned (.int .i64 (sumI ws)) ∧ w' = w := by
  have HX : Hid (∀ j, j < ws.length → w.cell? ⟨g, j, none⟩ = some (I64 (ws[j]?.getD 0))) := hx
  clear hx
  have hl := hW.le
  have HW : Hid (∀ x ∈ ws, 1 ≤ x ∧ x ≤ 100) := hW.at'
  go_enter Try.func119, Try.ntmps119
  go_wp2
  go_loop [3, 8] (fun t i => ∃ (k : Nat) (n : Int), k ≤ ws.length ∧ i = .int .i64 k ∧ t = .int .i64 n ∧ Hid (n = sumI (ws.take k)) ∧ 0 ≤ n ∧ n ≤ 100 * k) (fun _ i => ws.length - (intOf i).toNat)
  case atStart => exact ⟨0, 0, by omega, rfl, rfl, by simp [Hid, sumI_nil], by omega, by omega⟩
  case round =>
    obtain ⟨k, n, hk, rfl, rfl, hn, hn0, hn1⟩ := hrel
    by_cases hlt : k < ws.length
    · have hlt' : (k : Int) < (ws.length : Int) := by omega
      obtain ⟨x, hxk⟩ : ∃ x, ws[k]? = some x := ⟨_, List.getElem?_eq_getElem hlt⟩
      have hc : w.cell? ⟨g, k, none⟩ = some (I64 x) := by rw [HX.out k hlt, hxk]; rfl
      have hb := HW.out x (List.mem_of_getElem? hxk)
      have HN : Hid (n + x = sumI (ws.take (k + 1))) := by show _ = _; rw [sumI_take _ _ _ hxk, hn.out]
      clear hxk
      go_wp2
      go_round
      case rel => exact ⟨k + 1, n + x, by omega, by go_num, by go_num, HN, by omega, by omega⟩
      case measure => simp [intOf]; omega
    · go_wp2
      go_ret
      have hn' := hn.out
      rw [List.take_of_length_le (by omega)] at hn'
      exact ⟨by rw [← hn']; rfl, rfl⟩

theorem enoughW_at (g c : Nat) (ws : List Int) (p : Int) (w : World) (hx : ∀ j, j < ws.length → w.cell? ⟨g, j, none⟩ = some (I64 (ws[j]?.getD 0))) (hW : OkWs ws) (hp0 : 0 ≤ p) (hp1 : p ≤ 30000) :
    Calls Try.prog 105 #[.slice (some ⟨g, 0, none⟩) ws.length c, .int .i64 p] w fun e w' => e = .returned (.bool (decide (2 * sumI ws ≤ 3 * p))) ∧ w' = w := by
  obtain ⟨hs0, hs1⟩ := hW.sum
  go_enter Try.func105, Try.ntmps105
  go_wp2_with fail
  refine (total_at g c ws _ hx hW).mono ?_
  rintro e w1 ⟨rfl, rfl⟩
  clear hx
  obtain ⟨n, hn⟩ : ∃ n, sumI ws = n := ⟨_, rfl⟩
  rw [hn] at hs0 hs1 ⊢
  go_wp2
  go_ret
  exact ⟨by rw [hn]; rfl, rfl⟩

theorem row_low {w : World} {base : Nat} {e : TypeId} {size : Nat} {v : Value} {n : Nat} {xs : List Value} (h : w.ownsRow base e size v n xs) : w.ownsRow 0 e size v n xs := by
  refine ⟨h.1, ?_⟩
  rcases h.2 with h' | ⟨g, cap, cur, h1, _, h2⟩
  · exact .inl h'
  · exact .inr ⟨g, cap, cur, h1, Nat.zero_le _, h2⟩

theorem of_at (g c : Nat) (v : Value) (ws l : List Int) (w : World) (hx : ∀ j, j < ws.length → w.cell? ⟨g, j, none⟩ = some (I64 (ws[j]?.getD 0))) (hW : OkWs ws) (hr : w.ownsRow 0 3 1 v l.length (l.map I64)) (hl : ∀ v ∈ l, 0 ≤ v ∧ v < ws.length) (hl2 : l.length ≤ 300) :
    Calls Try.prog 106 #[.slice (some ⟨g, 0, none⟩) ws.length c, v] w fun e w' => e = .returned (.int .i64 (wSum ws l)) ∧ w' = w := by
  have HX : Hid (∀ j, j < ws.length → w.cell? ⟨g, j, none⟩ = some (I64 (ws[j]?.getD 0))) := hx
  clear hx
  have HL : Hid (∀ v ∈ l, 0 ≤ v ∧ v < ws.length) := hl
  clear hl
  have hle := hW.le
  have HW := hW
  obtain ⟨vp, vc, hvv⟩ : ∃ vp vc, v = .slice vp l.length vc := by
    rcases hr.2 with ⟨h', h''⟩ | ⟨g, cap, cur, h', _⟩
    · exact ⟨none, 0, by rw [h', h'']⟩
    · exact ⟨_, _, h'⟩
  subst hvv
  go_enter Try.func106, Try.ntmps106
  go_wp2
  go_loop [5, 10] (fun t i => ∃ (k : Nat) (n : Int), k ≤ l.length ∧ i = .int .i64 k ∧ t = .int .i64 n ∧ Hid (n = wSum ws (l.take k)) ∧ 0 ≤ n ∧ n ≤ 100 * k) (fun _ i => l.length - (intOf i).toNat)
  case atStart => exact ⟨0, 0, by omega, rfl, rfl, by simp [Hid, wSum, sumI_nil], by omega, by omega⟩
  case round =>
    obtain ⟨k, n, hk, rfl, rfl, hn, hn0, hn1⟩ := hrel
    by_cases hlt : k < l.length
    · have hlt' : (k : Int) < (l.length : Int) := by omega
      obtain ⟨gl, capl, hgl, _, _, hcl, _⟩ := row_open hr (by omega)
      simp only [Value.slice.injEq, true_and] at hgl
      obtain ⟨rfl, rfl⟩ := hgl
      obtain ⟨y, hy⟩ : ∃ y, l[k]? = some y := ⟨_, List.getElem?_eq_getElem hlt⟩
      have hc : w.cell? ⟨gl, k, none⟩ = some (I64 y) := by rw [hcl k hlt, hy]; rfl
      obtain ⟨y0, y1⟩ := HL.out y (List.mem_of_getElem? hy)
      obtain ⟨x, hxk⟩ : ∃ x, wAt ws y = x := ⟨_, rfl⟩
      have hcx : w.cell? ⟨g, y.toNat, none⟩ = some (I64 x) := by rw [← hxk]; exact HX.out _ (by omega)
      have hb := hW.wAt (v := y) (by omega)
      rw [hxk] at hb
      have HN : Hid (n + x = wSum ws (l.take (k + 1))) := by show _ = _; rw [wSum_take _ _ _ _ hy, hn.out, hxk]
      clear hxk hcl hy
      go_wp2
      go_round
      case rel => exact ⟨k + 1, n + x, by omega, by go_num, by go_num, HN, by omega, by omega⟩
      case measure => simp [intOf]; omega
    · go_wp2
      go_ret
      have hn' := hn.out
      rw [List.take_of_length_le (by omega)] at hn'
      exact ⟨by rw [← hn']; rfl, rfl⟩

set_option maxRecDepth 100000 in
set_option maxHeartbeats 2000000 in
theorem enough_at (b : Nat) (S : Nat → Prop) (m : Int) (ws ps : List Int) (vs : List Vt) (wv pv vv : Value) (s t : Int) (w : World) (h : CourtAt w b S m ws ps vs wv pv vv) (hW : OkWs ws) (hl : vs.length ≤ 300) (hO : OkV ws.length ps vs) :
    Calls Try.prog 86 #[.pointer (some ⟨b, 0, none⟩), .int .i64 s, .int .i64 t] w fun e w' => e = .returned (.bool (linkB ws vs s t)) ∧ Below w.heap.size w w' := by
  obtain ⟨gw, capw, rfl, _, _, hcw, _⟩ := row_open h.wrow hW.pos
  have hbl := h.lt b h.inb
  have h2 := h.c2
  have hgwl : gw < w.heap.size := World.block_lt_of_cell? w _ (hcw 0 hW.pos)
  have HCW : Hid (∀ j, j < ws.length → w.cell? ⟨gw, j, none⟩ = some (I64 (ws[j]?.getD 0))) := hcw
  clear hcw
  go_enter Try.func86, Try.ntmps86
  have hCd : CourtAt w.drew b S m ws ps vs (.slice (some ⟨gw, 0, none⟩) ws.length capw) pv vv := h.kept (Chg.drew (Chg.refl (fun _ => False) _)) (fun _ _ hf => hf)
  have hp12 := hW.le
  obtain ⟨q, hOf, hEn⟩ : ∃ q : Int, (∀ (v : Value) (W : World), (∀ j, j < ws.length → W.cell? ⟨gw, j, none⟩ = some (I64 (ws[j]?.getD 0))) → W.ownsRow w.heap.size 3 1 v (votersL ws.length vs s t).length ((votersL ws.length vs s t).map I64) → Calls Try.prog 106 #[.slice (some ⟨gw, 0, none⟩) ws.length capw, v] W fun e w' => e = .returned (.int .i64 q) ∧ w' = W) ∧
      (∀ W : World, (∀ j, j < ws.length → W.cell? ⟨gw, j, none⟩ = some (I64 (ws[j]?.getD 0))) → Calls Try.prog 105 #[.slice (some ⟨gw, 0, none⟩) ws.length capw, .int .i64 q] W fun e w' => e = .returned (.bool (linkB ws vs s t)) ∧ w' = W) := by
    have hlen : (votersL ws.length vs s t).length ≤ 12 := by
      rw [(votersL_perm hO.v s t).length_eq]; exact Nat.le_trans (onL_length hO s t) hp12
    have hbnd := hW.wSum (l := votersL ws.length vs s t) (fun v hv => mem_votersL hv)
    refine ⟨wSum ws (votersL ws.length vs s t), fun v W hx hr => of_at gw capw v ws _ W hx hW (row_low hr) (fun v hv => mem_votersL hv) (by omega), fun W hx => ?_⟩
    have := enoughW_at gw capw ws (wSum ws (votersL ws.length vs s t)) W hx hW hbnd.1 (by omega)
    rw [wSum_perm ws (votersL_perm hO.v s t)] at this ⊢
    exact this
  go_wp2_with fail
  go_region_held3 (fun w' => w'.cell? ⟨b, 2, none⟩ = some (.slice (some ⟨gw, 0, none⟩) ws.length capw))
    (first | assumption | simpa)
    ((first
      | (go_at_call 95; refine (votersFor_at b S m ws ps vs _ pv vv s t _ hCd hp12 hl hO).mono ?_; rintro e w2 ⟨⟨v, rfl, hrow⟩, hB2⟩
         have f2 : w2.cell? ⟨b, 2, none⟩ = some (.slice (some ⟨gw, 0, none⟩) ws.length capw) := (hB2.cell (p := ⟨b, 2, none⟩) hbl).trans h2)
      | (go_at_call 106; refine (hOf v _ (fun j hj => (hB2.cell (p := ⟨gw, j, none⟩) hgwl).trans (HCW.out j hj)) hrow).mono ?_; rintro e w3 ⟨rfl, rfl⟩)
      | (go_at_call 105; refine (hEn _ (fun j hj => (hB2.cell (p := ⟨gw, j, none⟩) hgwl).trans (HCW.out j hj))).mono ?_; rintro e w4 ⟨rfl, rfl⟩)))
  go_wp2
  go_ret
  exact ⟨rfl, (Below.refl w.heap.size w).drew.trans hB2⟩
end Go.Proofs.Ytgebcnnenhgkcaa
