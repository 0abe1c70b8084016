/- The document's own Court: who voted for a link, and what is enough. -/
import Derived.Test.YtgebcnnenhgkcaaGreatB15
import Derived.Test.YtgebcnnenhgkcaaGreatB06
import Derived.Test.YtgebcnnenhgkcaaGreatB08
namespace Go.Proofs.YtgebcnnenhgkcaaGreat
open Go.RowKit

theorem refAll_at (b : Nat) (S : Nat → Prop) (ws ps : List Int) (vs : List Vt) (wv pv vv : Value) (w : World) (h : RefAt w b S ws ps vs wv pv vv) (hW : OkWs ws) :
    Calls Tryz.prog 135 #[.pointer (some ⟨b, 0, none⟩)] w fun e w' => e = .returned (.int .i64 (sumI ws)) ∧ w' = w := by
  have h0 := h.c0
  obtain ⟨gw, capw, rfl, _, _, hcw, _⟩ := row_open h.wrow hW.pos
  have HX : Hid (∀ j, j < ws.length → w.cell? ⟨gw, j, none⟩ = some (I64 (ws[j]?.getD 0))) := hcw
  clear hcw
  have hl := hW.le
  have HW : Hid (∀ x ∈ ws, 1 ≤ x ∧ x ≤ 100) := hW.at'
  go_enter Tryz.func135, Tryz.ntmps135
  go_wp2
  go_loop [3, 4] (fun t i => ∃ (k : Nat) (n : Int), k ≤ ws.length ∧ i = .int .i64 k ∧ t = .int .i64 n ∧ Hid (n = sumI (ws.take k)) ∧ 0 ≤ n ∧ n ≤ 100 * k) (fun _ i => ws.length - (intOf i).toNat)
  case atStart => exact ⟨0, 0, by omega, rfl, rfl, by simp [Hid, sumI_nil], by omega, by omega⟩
  case round =>
    obtain ⟨k, n, hk, rfl, rfl, hn, hn0, hn1⟩ := hrel
    by_cases hlt : k < ws.length
    · have hlt' : (k : Int) < (ws.length : Int) := by omega
      obtain ⟨x, hxk⟩ : ∃ x, ws[k]? = some x := ⟨_, List.getElem?_eq_getElem hlt⟩
      have hc : w.cell? ⟨gw, k, none⟩ = some (I64 x) := by rw [HX.out k hlt, hxk]; rfl
      have hb := HW.out x (List.mem_of_getElem? hxk)
      have HN : Hid (n + x = sumI (ws.take (k + 1))) := by show _ = _; rw [sumI_take _ _ _ hxk, hn.out]
      clear hxk
      go_wp2
      go_round
      case rel => exact ⟨k + 1, n + x, by omega, by go_num, by go_num, HN, by omega, by omega⟩
      case measure => simp [intOf]; omega
    · go_wp2
      go_ret
      have hn' := hn.out
      rw [List.take_of_length_le (by omega)] at hn'
      exact ⟨by rw [← hn']; rfl, rfl⟩

theorem refEnough_at (b : Nat) (S : Nat → Prop) (ws ps : List Int) (vs : List Vt) (wv pv vv v : Value) (l : List Int) (w : World) (h : RefAt w b S ws ps vs wv pv vv) (hW : OkWs ws) (hr : w.ownsRow 0 3 1 v l.length (l.map I64)) (hl : ∀ v ∈ l, 0 ≤ v ∧ v < ws.length) (hl2 : l.length ≤ 300) :
    Calls Tryz.prog 110 #[.pointer (some ⟨b, 0, none⟩), v] w fun e w' => e = .returned (.bool (decide (2 * sumI ws ≤ 3 * wSum ws l))) ∧ Below w.heap.size w w' := by
  obtain ⟨vp, vc, hvv⟩ : ∃ vp vc, v = .slice vp l.length vc := by
    rcases hr.2 with ⟨h', h''⟩ | ⟨g, cap, cur, h', _⟩
    · exact ⟨none, 0, by rw [h', h'']⟩
    · exact ⟨_, _, h'⟩
  subst hvv
  have h0 := h.c0
  have hall := refAll_at b S ws ps vs wv pv vv
  have hH := h
  obtain ⟨gw, capw, rfl, _, _, hcw, _⟩ := row_open h.wrow hW.pos
  have HX : Hid (∀ j, j < ws.length → w.cell? ⟨gw, j, none⟩ = some (I64 (ws[j]?.getD 0))) := hcw
  clear hcw
  have HL : Hid (∀ v ∈ l, 0 ≤ v ∧ v < ws.length) := hl
  clear hl
  have hle := hW.le
  go_enter Tryz.func110, Tryz.ntmps110
  go_wp2
  go_loopw [5, 6] (fun t i wr => ∃ (k : Nat) (n : Int) (d : Nat), k ≤ l.length ∧ i = .int .i64 k ∧ t = .int .i64 n ∧ wr = w.drewN d ∧ Hid (n = wSum ws (l.take k)) ∧ 0 ≤ n ∧ n ≤ 100 * k) (fun _ i _ => l.length - (intOf i).toNat)
  case atStart => exact ⟨0, 0, 0, by omega, rfl, rfl, rfl, by simp [Hid, wSum, sumI_nil], by omega, by omega⟩
  case round =>
    obtain ⟨k, n, d, hk, rfl, rfl, rfl, hn, hn0, hn1⟩ := hrel
    by_cases hlt : k < l.length
    · have hlt' : (k : Int) < (l.length : Int) := by omega
      obtain ⟨gl, capl, hgl, _, _, hcl, _⟩ := row_open hr (by omega)
      simp only [Value.slice.injEq, true_and] at hgl
      obtain ⟨rfl, rfl⟩ := hgl
      obtain ⟨y, hy⟩ : ∃ y, l[k]? = some y := ⟨_, List.getElem?_eq_getElem hlt⟩
      have hc : w.cell? ⟨gl, k, none⟩ = some (I64 y) := by rw [hcl k hlt, hy]; rfl
      obtain ⟨y0, y1⟩ := HL.out y (List.mem_of_getElem? hy)
      obtain ⟨x, hxk⟩ : ∃ x, wAt ws y = x := ⟨_, rfl⟩
      have hcx : w.cell? ⟨gw, y.toNat, none⟩ = some (I64 x) := by rw [← hxk]; exact HX.out _ (by omega)
      obtain ⟨hb0, hb1⟩ := hW.wAt (v := y) (by omega)
      rw [hxk] at hb0 hb1
      have HN : Hid (n + x = wSum ws (l.take (k + 1))) := by show _ = _; rw [wSum_take _ _ _ _ hy, hn.out, hxk]
      clear hxk hcl hy
      have hwr : IntKind.i64.wrap (n + x) = n + x := Go.IntWalk.i64_in _ (by omega)
      go_wp2
      go_quiet (fail)
      go_wp2
      go_roundw
      case rel => exact ⟨k + 1, n + x, _, by omega, by go_num, by go_num, rfl, HN, by omega, by omega⟩
      case measure => simp [intOf]; omega
    · have hn' := hn.out
      rw [List.take_of_length_le (by omega)] at hn'
      have HN : Hid (n = wSum ws l) := hn'
      clear hn hn'
      obtain ⟨hs0, hs1⟩ := hW.sum
      have hd : RefAt (w.drewN d) b S ws ps vs _ pv vv := h.kept (Chg.of_below (fun _ => False) (below_drewN (Below.refl _ w) d)) (fun _ _ hf => hf)
      go_wp2_with fail
      refine (hall _ hd hW).mono ?_
      rintro e w2 ⟨rfl, rfl⟩
      obtain ⟨T, hT⟩ : ∃ T, sumI ws = T := ⟨_, rfl⟩
      rw [hT] at hs0 hs1 ⊢
      have HT : Hid (sumI ws = T) := hT
      clear hT hall
      go_wp2
      go_ret
      exact ⟨by rw [← HN.out, HT.out]; rfl, below_drewN (Below.refl _ w) d⟩

set_option maxRecDepth 100000 in
set_option maxHeartbeats 2000000 in
theorem refVoters_at (b : Nat) (S : Nat → Prop) (ws ps : List Int) (vs : List Vt) (wv pv vv : Value) (s t : Int) (w : World) (h : RefAt w b S ws ps vs wv pv vv) (hW : OkWs ws) (hl : vs.length ≤ 300) (hO : OkV ws.length ps vs) :
    Calls Tryz.prog 82 #[.pointer (some ⟨b, 0, none⟩), .int .i64 s, .int .i64 t] w fun e w' => (∃ v, e = .returned v ∧ w'.ownsRow w.heap.size 3 1 v (votersL ws.length vs s t).length ((votersL ws.length vs s t).map I64)) ∧ Below w.heap.size w w' := by
  have h0 := h.c0
  have h2 := h.c2
  have hbl := h.lt b h.inb
  obtain ⟨i0, hi, hz0, hz1, hz2⟩ := info_parts info_int
  obtain ⟨gw, capw, rfl, _, _, _, _⟩ := row_open h.wrow hW.pos
  obtain ⟨vp, vc, hvv⟩ : ∃ vp vc, vv = .slice vp vs.length vc := by
    rcases h.vrow.2 with ⟨h', h''⟩ | ⟨g, cap, cur, h', _⟩
    · exact ⟨none, 0, by rw [h', h'']⟩
    · exact ⟨_, _, h'⟩
  subst hvv
  have hle := hW.le
  have HO : Hid (OkV ws.length ps vs) := hO
  clear hO
  go_enter Tryz.func82, Tryz.ntmps82
  go_wp2
  go_loopw [7, 8] (fun v i wr => ∃ k : Nat, k ≤ ws.length ∧ i = .int .i64 k ∧ Below w.heap.size w wr ∧ (votersL k vs s t).length ≤ k * 300 ∧ wr.ownsRow w.heap.size 3 1 v (votersL k vs s t).length ((votersL k vs s t).map I64)) (fun _ i _ => ws.length - (intOf i).toNat)
  case atStart => exact ⟨0, by omega, rfl, Below.refl _ _, Nat.le_refl _, World.ownsRow_nil _ _ _ _⟩
  case round =>
    obtain ⟨k, hk, rfl, hB, hvl, hown⟩ := hrel
    have r0 : wr.cell? ⟨b, 0, none⟩ = some (.slice (some ⟨gw, 0, none⟩) ws.length capw) := (hB.cell (p := ⟨b, 0, none⟩) hbl).trans h0
    by_cases hlt : k < ws.length
    · have hlt' : (k : Int) < (ws.length : Int) := by omega
      have HS : Hid _ := votersL_succ k vs s t
      obtain ⟨Z, hZ⟩ : ∃ Z, votersL k vs s t = Z := ⟨_, rfl⟩
      rw [hZ] at hown hvl
      have HZ : Hid (votersL k vs s t = Z) := hZ
      clear hZ
      go_wp2
      go_loopw [7, 9] (fun v i wr2 => ∃ j : Nat, j ≤ vs.length ∧ i = .int .i64 j ∧ Below w.heap.size w wr2 ∧ wr2.ownsRow w.heap.size 3 1 v (Z ++ voterL (vs.take j) s t k).length ((Z ++ voterL (vs.take j) s t k).map I64)) (fun _ i _ => vs.length - (intOf i).toNat)
      case atStart => exact ⟨0, by omega, rfl, hB, by simpa [voterL] using hown⟩
      case round =>
        clear hB hown r0
        obtain ⟨j, hj, rfl, hB, hown⟩ := hrel
        have hz := hB.size
        have r2 : wr.cell? ⟨b, 2, none⟩ = some (.slice vp vs.length vc) := (hB.cell (p := ⟨b, 2, none⟩) hbl).trans h2
        by_cases hjl : j < vs.length
        · have hjl' : (j : Int) < (vs.length : Int) := by omega
          obtain ⟨gv, cap, hgv, _, _, hc, _⟩ := vrow_open h.vrow (by omega)
          simp only [Value.slice.injEq, true_and] at hgv
          obtain ⟨rfl, rfl⟩ := hgv
          have hgl : gv < w.heap.size := VCells.lt hc (by omega)
          obtain ⟨y, hy⟩ : ∃ y, vs[j]? = some y := ⟨_, List.getElem?_eq_getElem hjl⟩
          obtain ⟨hc0, hc1, hc2⟩ := VCells.below hc hB hgl j y hy
          have HN : Hid (voterL (vs.take (j + 1)) s t k = voterL (vs.take j) s t k ++ (if (y.v == (k : Int) && (y.s == s && y.t == t)) = true then [(k : Int)] else [])) := by
            show _ = _
            rw [List.take_add_one, hy]
            unfold voterL
            by_cases e : (y.v == (k : Int) && (y.s == s && y.t == t)) = true
            · simp only [List.filter_append, List.map_append, Option.toList_some, List.filter_cons, e, if_true, List.filter_nil, List.map_cons, List.map_nil]
            · simp only [List.filter_append, List.map_append, Option.toList_some, List.filter_cons, e, List.filter_nil]; simp
          clear hc hy
          have hbr : b < wr.heap.size := by omega
          have hBn := hB.alloc hz (.cells #[I64 y.v, I64 y.s, I64 y.t] 47)
          have hVl : (voterL (vs.take j) s t k).length ≤ j := by
            unfold voterL
            rw [List.length_map]
            exact Nat.le_trans (List.length_filter_le _ _) (by simp; omega)
          obtain ⟨V, hV⟩ : ∃ V, voterL (vs.take j) s t k = V := ⟨_, rfl⟩
          rw [hV] at hown hVl
          have HV : Hid (voterL (vs.take j) s t k = V) := hV
          clear hV
          have hno : (y.v == (k : Int) && (y.s == s && y.t == t)) = false → Hid (voterL (vs.take (j + 1)) s t k = V) := fun e => by show _ = _; rw [HN.out, HV.out, e]; simp
          by_cases e1 : y.v = (k : Int)
          · have q1 : (y.v == (k : Int)) = true := by simpa using e1
            by_cases e2 : y.s = s
            · have q2 : (y.s == s) = true := by simpa using e2
              by_cases e3 : y.t = t
              · have q3 : (y.t == t) = true := by simpa using e3
                have HN' : Hid (voterL (vs.take (j + 1)) s t k = V ++ [(k : Int)]) := by show _ = _; rw [HN.out, HV.out, q1, q2, q3]; simp
                clear HN e1 e2 e3 hno
                have hlen : (Z ++ V).length ≤ 4000 := by simp; omega
                obtain ⟨ZV, hZV⟩ : ∃ q, Z ++ V = q := ⟨_, rfl⟩
                rw [hZV] at hown hlen
                have HZV : Hid (Z ++ V = ZV) := hZV
                clear hZV
                have h63 : Hid (ZV.length + 1 ≤ maxLen) := by show _ ≤ _; unfold maxLen; omega
                go_wp2_with (at_builtin; refine wpList_append_own _ (by rfl) _ _ _ (by rfl) w.heap.size 3 i0 (I64 0) 1 8 Tryz.underlying22 hi hz0 hz1 hz2 rfl (by omega) _ ZV.length (ZV.map I64) (by rfl) ((hown.alloc _).alloc _) ⟨wr.heap.size + 1, 0, none⟩ 1 1 [I64 k] (by rfl) (by rfl) (cell_two_new _ _ _ _) (by simp [Value.oneCell']) h63.out (by omega) (by simp; omega) ?_; intro v1 w1 hown1 hgrow1 hnil1)
                go_roundw
                case rel => exact ⟨j + 1, by omega, by go_num, (hBn.alloc (by simp; omega) _).grown hgrow1 (by simp; omega) (fun q e => (hown.lt q e).1), by rw [HN'.out, ← List.append_assoc, HZV.out, List.map_append, List.length_append]; exact hown1⟩
                case measure => simp [intOf]; omega
              · have q3 : (y.t == t) = false := by simpa using e3
                have HN' := hno (by rw [q1, q2, q3]; rfl)
                clear HN e1 e2 e3 hno
                go_wp2
                go_roundw
                case rel => exact ⟨j + 1, by omega, by go_num, hBn, by rw [HN'.out]; exact hown.alloc _⟩
                case measure => simp [intOf]; omega
            · have q2 : (y.s == s) = false := by simpa using e2
              have HN' := hno (by rw [q1, q2]; rfl)
              clear HN e1 e2 hno
              go_wp2
              go_roundw
              case rel => exact ⟨j + 1, by omega, by go_num, hBn, by rw [HN'.out]; exact hown.alloc _⟩
              case measure => simp [intOf]; omega
          · have q1 : (y.v == (k : Int)) = false := by simpa using e1
            have HN' := hno (by rw [q1]; rfl)
            clear HN e1 hno
            go_wp2
            go_roundw
            case rel => exact ⟨j + 1, by omega, by go_num, hBn, by rw [HN'.out]; exact hown.alloc _⟩
            case measure => simp [intOf]; omega
        · have hj' : j = vs.length := by omega
          subst hj'
          rw [List.take_length] at hown
          have hVl : (voterL vs s t k).length ≤ 300 := by
            unfold voterL
            rw [List.length_map]
            exact Nat.le_trans (List.length_filter_le _ _) hl
          go_wp2
          go_roundw
          case rel => exact ⟨k + 1, by omega, by go_num, hB, by rw [HS.out, HZ.out, List.length_append]; omega, by rw [HS.out, HZ.out]; exact hown⟩
          case measure => simp [intOf]; omega
    · have hk' : k = ws.length := by omega
      subst hk'
      go_wp2
      go_ret
      exact ⟨⟨_, rfl, hown⟩, hB⟩
end Go.Proofs.YtgebcnnenhgkcaaGreat
/- The document's own Court: linked, Far. -/
namespace Go.Proofs.YtgebcnnenhgkcaaGreat
open Go.RowKit

theorem refLinked_at (b : Nat) (S : Nat → Prop) (ws ps : List Int) (vs : List Vt) (wv pv vv : Value) (s t : Int) (w : World) (h : RefAt w b S ws ps vs wv pv vv) (hW : OkWs ws) (hl : vs.length ≤ 300) (hO : OkV ws.length ps vs) :
    Calls Tryz.prog 108 #[.pointer (some ⟨b, 0, none⟩), .int .i64 s, .int .i64 t] w fun e w' => e = .returned (.bool (linkB ws vs s t)) ∧ Below w.heap.size w w' := by
  go_enter Tryz.func108, Tryz.ntmps108
  go_wp2_with fail
  refine (refVoters_at b S ws ps vs wv pv vv s t _ h hW hl hO).mono ?_
  rintro e w1 ⟨⟨v, rfl, hrow⟩, hB1⟩
  have h1 := h.kept (Chg.of_below (fun _ => False) hB1) (fun _ _ hf => hf)
  have hlen : (votersL ws.length vs s t).length ≤ 300 := by
    rw [(votersL_perm hO.v s t).length_eq]; have := onL_length hO s t; have := hW.le; omega
  have hE := refEnough_at b S ws ps vs wv pv vv v (votersL ws.length vs s t) w1 h1 hW (row_low hrow) (fun v hv => mem_votersL hv) hlen
  rw [wSum_perm ws (votersL_perm hO.v s t)] at hE
  clear hrow
  go_wp2_with fail
  refine hE.mono ?_
  rintro e w2 ⟨rfl, hB2⟩
  clear hE
  go_wp2
  go_ret
  exact ⟨rfl, hB1.trans (hB2.mono hB1.size)⟩

/-- In the midst of a round: what is told of a block is right; all of fewer links are told; what lies behind one of the blocks below a0 is told. -/
structure FarM (D : Int → Int) (lk : Int → Int → Bool) (n : Nat) (r : Int) (a0 : Nat) (A : Array Int) : Prop where
  size : A.size = n
  ok : ∀ b, b < n → A[b]! = -1 ∨ A[b]! = D b
  low : ∀ b, b < n → D b < r → A[b]! = D b
  le : ∀ b, b < n → A[b]! ≠ -1 → D b ≤ r
  by' : ∀ a b, a < a0 → b < n → D a = r - 1 → lk a b = true → A[b]! ≠ -1
/-- At the beginning of a round. -/
structure FarB (D : Int → Int) (n : Nat) (r : Int) (A : Array Int) : Prop where
  size : A.size = n
  ok : ∀ b, b < n → A[b]! = -1 ∨ A[b]! = D b
  low : ∀ b, b < n → D b < r → A[b]! = D b
  lt : ∀ b, b < n → A[b]! ≠ -1 → D b < r

section
variable {D : Int → Int} {lk : Int → Int → Bool} {ps : List Int} {r : Int} {a0 : Nat} {A : Array Int}
theorem FarB.begin (h : FarB D ps.length r A) : FarM D lk ps.length r 0 A := ⟨h.size, h.ok, h.low, fun b hb hn => by have := h.lt b hb hn; omega, fun a b ha => by omega⟩
theorem FarM.end' (hD : IsSteps lk ps D) (hT : Tree ps) (h : FarM D lk ps.length r ps.length A) (h1 : 1 ≤ r) (h40 : r < 40) : FarB D ps.length (r + 1) A := by
  refine ⟨h.size, h.ok, fun b hb hlt => ?_, fun b hb hn => by have := h.le b hb hn; omega⟩
  by_cases e : D b < r
  · exact h.low b hb e
  · have hbr : D b = r := by omega
    have hb0 : 0 < (b : Int) := by
      by_cases e0 : b = 0
      · subst e0; have := hD.root; simp at hbr; omega
      · omega
    obtain ⟨s, hs, hl, he⟩ := hD.by' b hb0 (by simpa using hb) (by omega)
    have hsl := mem_up_lt hT (Int.le_of_lt hb0) (by simpa using hb) hs
    have hsn : (s.toNat : Int) = s := Int.toNat_of_nonneg hsl.1
    have := h.by' s.toNat b (by omega) hb (by rw [hsn]; omega) (by rw [hsn]; exact hl)
    exact (h.ok b hb).resolve_left this
/-- What Far tells. -/
def farOf (d : Int) : Int := if d = 40 then -1 else d
theorem FarB.all (hD : IsSteps lk ps D) (hT : Tree ps) (h : FarB D ps.length ps.length A) (b : Nat) (hb : b < ps.length) : A[b]! = farOf (D b) := by
  have hle := hD.le b (by omega) (by simpa using hb)
  have h40 := hT.2.1
  unfold farOf
  split
  · rename_i e
    by_cases hn : A[b]! = -1
    · exact hn
    · have := h.lt b hb hn; omega
  · rename_i e
    have := hD.low b (by omega) (by simpa using hb) (by omega)
    exact h.low b hb (by omega)
/-- A block is told. -/
theorem FarM.put (hD : IsSteps lk ps D) (h : FarM D lk ps.length r a0 A) (a b : Nat) (hb : b < ps.length) (hb0 : 0 < b) (hup : (a : Int) ∈ up ps b) (hl : lk a b = true) (ha : D a = r - 1) (hn : A[b]! = -1) (hr : 1 ≤ r) : FarM D lk ps.length r a0 (A.set! b r) := by
  have hsz := h.size
  have hDb : D b = r := by
    have h1 := hD.min b (by omega) (by simpa using hb) a hup hl
    have h2 := hD.le b (by omega) (by simpa using hb)
    by_cases e : D b < r
    · have := h.low b hb e; omega
    · omega
  have hset : ∀ c, c < ps.length → (A.set! b r)[c]! = if c = b then r else A[c]! := fun c hc => by
    simp only [Array.set!_eq_setIfInBounds]
    by_cases e : c = b
    · subst e; simp [hsz, hc]
    · rw [if_neg e]
      simp [Array.getElem!_eq_getD, Array.getD_eq_getD_getElem?, Array.getElem?_setIfInBounds_ne (Ne.symm e)]
  refine ⟨by simpa using hsz, fun c hc => ?_, fun c hc hlt => ?_, fun c hc hne => ?_, fun a' c ha' hc hd hk => ?_⟩
  · rw [hset c hc]
    split
    · rename_i e; subst e; exact .inr hDb.symm
    · exact h.ok c hc
  · rw [hset c hc]
    split
    · rename_i e; subst e; exact hDb.symm
    · exact h.low c hc hlt
  · rw [hset c hc] at hne
    by_cases e : c = b
    · subst e; omega
    · rw [if_neg e] at hne; exact h.le c hc hne
  · rw [hset c hc]
    split
    · omega
    · exact h.by' a' c ha' hc hd hk
theorem FarM.skip (h : FarM D lk ps.length r a0 A) (ha : a0 < ps.length) (hne : A[a0]! ≠ r - 1) : FarM D lk ps.length r (a0 + 1) A := by
  refine ⟨h.size, h.ok, h.low, h.le, fun a b ha' hb hd hk => ?_⟩
  by_cases e : a = a0
  · subst e
    have := h.low a ha (by omega)
    omega
  · exact h.by' a b (by omega) hb hd hk
theorem FarM.next {vs : List Vt} (h : FarM D lk ps.length r a0 A) (hv : ∀ b, lk a0 b = true → ∃ y ∈ vs, y.s = a0 ∧ y.t = b) (hd : ∀ y ∈ vs, y.s = a0 → lk a0 y.t = true → A[y.t.toNat]! ≠ -1) : FarM D lk ps.length r (a0 + 1) A := by
  refine ⟨h.size, h.ok, h.low, h.le, fun a b ha' hb hda hk => ?_⟩
  by_cases e : a = a0
  · subst e
    obtain ⟨y, hy, h1, h2⟩ := hv b hk
    have := hd y hy h1 (by rw [h2]; exact hk)
    rw [h2] at this
    simpa using this
  · exact h.by' a b (by omega) hb hda hk
end

set_option maxRecDepth 100000 in
set_option maxHeartbeats 4000000 in
theorem refFar_at (b : Nat) (S : Nat → Prop) (ws ps : List Int) (vs : List Vt) (wv pv vv : Value) (w : World) (h : RefAt w b S ws ps vs wv pv vv) (hT : Tree ps) (hW : OkWs ws) (hl : vs.length ≤ 300) (hO : OkV ws.length ps vs) :
    Calls Tryz.prog 79 #[.pointer (some ⟨b, 0, none⟩)] w fun e w' => (∃ g A, e = .returned (.slice (some ⟨g, 0, none⟩) ps.length ps.length) ∧ w.heap.size ≤ g ∧ Nums w' g ps.length A ∧ A.size = ps.length ∧ ∀ j, j < ps.length → A[j]! = farOf (stAt (stepsC ws ps vs) j)) ∧ Below w.heap.size w w' := by
  have hD : IsSteps (linkB ws vs) ps (stAt (stepsC ws ps vs)) := stepsL_is (linkB ws vs) hT
  have h1 := h.c1
  have h2 := h.c2
  have hlen : ps.length ≤ 40 := hT.2.1
  obtain ⟨i0, hi, hz0, hz1, hz2⟩ := info_parts info_int
  obtain ⟨g0, cap0, rfl, _, _, _, _⟩ := row_open h.prow hT.1
  go_enter Tryz.func79, Tryz.ntmps79
  have h63 : Hid (ps.length ≤ maxLen) := by show _ ≤ _; unfold maxLen; omega
  have hby : Hid (i0.bytes * ps.length ≤ 281474976710656) := by show _ ≤ _; rw [hz2]; omega
  clear hz2
  go_wp2_with (at_make; refine wpList_make_full _ (by rfl) _ _ _ (by rfl) 0 3 i0 (I64 0) 1 Tryz.underlying22 hi hz0 hz1 .i64 .i64 _ _ ps.length (by rfl) (by rfl) rfl rfl hby.out h63.out (Nat.zero_le _) ?_; intro w2 hown2 hgrow2)
  have hB2 : Below w.heap.size w w2 := (Below.refl _ w).grown hgrow2 (Nat.le_refl _) (fun k e => by cases e)
  have hstart : Hid (∃ A, Nums w2 w.heap.size ps.length A ∧ A.size = ps.length ∧ ∀ j, j < ps.length → A[j]! = if 0 < j ∧ j < 1 then -1 else 0) := by
    have e2 : (madeCells (I64 0).cells (ps.length * 1)).toList = (List.replicate ps.length (0 : Int)).map I64 := by
      rw [List.map_replicate]
      simpa [Value.cells] using toList_madeCells_one (I64 0) (ps.length * 1)
    rw [e2] at hown2
    refine ⟨_, (row_nums hown2).2.1, by simp, fun j hj => ?_⟩
    rw [if_neg (by omega), getElem!_pos _ _ (by simpa using hj)]
    simp
  clear hown2 hgrow2
  obtain ⟨vp, vc, hvv⟩ : ∃ vp vc, vv = .slice vp vs.length vc := by
    rcases h.vrow.2 with ⟨h', h''⟩ | ⟨g, cap, cur, h', _⟩
    · exact ⟨none, 0, by rw [h', h'']⟩
    · exact ⟨_, _, h'⟩
  subst hvv
  have hbl := h.lt b h.inb
  have hpos := hT.1
  go_loopw [4] (fun i wr => ∃ k : Nat, 1 ≤ k ∧ k ≤ ps.length ∧ i = .int .i64 k ∧ Below w.heap.size w wr ∧ Hid (∃ A, Nums wr w.heap.size ps.length A ∧ A.size = ps.length ∧ ∀ j, j < ps.length → A[j]! = if 0 < j ∧ j < k then -1 else 0)) (fun i _ => ps.length - (intOf i).toNat)
  case atStart => exact ⟨1, by omega, by omega, rfl, hB2, hstart⟩
  case round =>
    obtain ⟨k, hk1, hk, rfl, hB, hcur⟩ := hrel
    clear hstart hB2
    by_cases hlt : k < ps.length
    · have hlt' : (k : Int) < (ps.length : Int) := by omega
      obtain ⟨A, hA1, hA2, hA3⟩ := hcur.out
      obtain ⟨hv, hf⟩ := hA1.cell (j := k) (by omega)
      have hset := hA1.set (j := k) (by omega) (-1)
      have HN : Hid (∃ A, Nums (wr.setCell ⟨w.heap.size, k, none⟩ (I64 (-1))) w.heap.size ps.length A ∧ A.size = ps.length ∧ ∀ j, j < ps.length → A[j]! = if 0 < j ∧ j < k + 1 then -1 else 0) := by
        refine ⟨_, hset, by simpa using hA2, fun j hj => ?_⟩
        simp only [Array.set!_eq_setIfInBounds]
        by_cases e : j = k
        · subst e
          rw [if_pos (by omega)]
          simp [hA2, hj]
        · have e1 : (A.setIfInBounds k (-1))[j]! = A[j]! := by simp [Array.getElem!_eq_getD, Array.getD_eq_getD_getElem?, Array.getElem?_setIfInBounds_ne (Ne.symm e)]
          rw [e1, hA3 j hj]
          by_cases e2 : 0 < j ∧ j < k
          · rw [if_pos e2, if_pos (by omega)]
          · rw [if_neg e2, if_neg (by omega)]
      generalize A[k]! = z2 at hv
      clear hset hA1 hA2 hA3 hcur
      have hBn : Below w.heap.size w (wr.setCell ⟨w.heap.size, k, none⟩ (I64 (-1))) := hB.setCell (p := ⟨w.heap.size, k, none⟩) (Nat.le_refl _) _
      go_wp2
      go_roundw
      case rel => exact ⟨k + 1, by omega, by omega, by go_num, hBn, HN⟩
      case measure => simp [intOf]; omega
    · have hB1 : Hid (∃ A, Nums wr w.heap.size ps.length A ∧ FarB (stAt (stepsC ws ps vs)) ps.length 1 A) := by
        obtain ⟨A, hA1, hA2, hA3⟩ := hcur.out
        have hk' : k = ps.length := by omega
        subst hk'
        have h00 : A[0]! = 0 := by rw [hA3 0 hT.1, if_neg (by omega)]
        have hbb : ∀ j, 0 < j → j < ps.length → A[j]! = -1 := fun j h0 hj => by rw [hA3 j hj, if_pos ⟨h0, hj⟩]
        refine ⟨A, hA1, hA2, fun j hj => ?_, fun j hj hd => ?_, fun j hj hn => ?_⟩
        · by_cases e : j = 0
          · subst e; right; rw [h00]; exact hD.root.symm
          · exact .inl (hbb j (by omega) hj)
        · by_cases e : j = 0
          · subst e; rw [h00]; exact hD.root.symm
          · exfalso
            obtain ⟨s, hs, _, he⟩ := hD.by' j (by omega) (by simpa using hj) (by omega)
            have h3 := mem_up_lt hT (by omega) (by simpa using hj) hs
            have h4 := (hD.le s h3.1 (by omega)).1
            omega
        · by_cases e : j = 0
          · subst e; have := hD.root; simp at this ⊢; omega
          · exact absurd (hbb j (by omega) hj) hn
      have hBw := hB
      clear hcur
      go_wp2
      go_loopw [5] (fun i wr => ∃ r : Nat, 1 ≤ r ∧ r ≤ ps.length ∧ i = .int .i64 r ∧ Below w.heap.size w wr ∧ Hid (∃ A, Nums wr w.heap.size ps.length A ∧ FarB (stAt (stepsC ws ps vs)) ps.length r A)) (fun i _ => ps.length - (intOf i).toNat)
      case atStart => exact ⟨1, by omega, by omega, rfl, hBw, hB1⟩
      case round =>
        clear hB1 hB hBw
        obtain ⟨r, hr1, hr, rfl, hB, hcur⟩ := hrel
        by_cases hrl : r < ps.length
        · have hrl' : (r : Int) < (ps.length : Int) := by omega
          have hM0 : Hid (∃ A, Nums wr w.heap.size ps.length A ∧ FarM (stAt (stepsC ws ps vs)) (linkB ws vs) ps.length r 0 A) := by
            obtain ⟨A, hA1, hA2⟩ := hcur.out
            exact ⟨A, hA1, hA2.begin⟩
          clear hcur
          go_wp2
          go_loopw [6] (fun i wr => ∃ a : Nat, a ≤ ps.length ∧ i = .int .i64 a ∧ Below w.heap.size w wr ∧ Hid (∃ A, Nums wr w.heap.size ps.length A ∧ FarM (stAt (stepsC ws ps vs)) (linkB ws vs) ps.length r a A)) (fun i _ => ps.length - (intOf i).toNat)
          case atStart => exact ⟨0, by omega, rfl, hB, hM0⟩
          case round =>
            clear hM0 hB
            obtain ⟨a, ha, rfl, hB, hcur⟩ := hrel
            by_cases hal : a < ps.length
            · have hal' : (a : Int) < (ps.length : Int) := by omega
              obtain ⟨A, hA1, hA2⟩ := hcur.out
              have hsz := hA2.size
              obtain ⟨hv, _⟩ := hA1.cell (j := a) (by omega)
              obtain ⟨z, hz⟩ : ∃ z, A[a]! = z := ⟨_, rfl⟩
              rw [hz] at hv
              have hwr1 : IntKind.i64.wrap ((r : Int) - 1) = (r : Int) - 1 := Go.IntWalk.i64_in _ (by omega)
              by_cases hzr : z = (r : Int) - 1
              · have q : (z != (r : Int) - 1) = false := by simpa using hzr
                have HD : Hid (stAt (stepsC ws ps vs) a = (r : Int) - 1) := by
                  show _ = _
                  rcases hA2.ok a hal with e | e <;> omega
                have hI0 : Hid (∃ A, Nums wr w.heap.size ps.length A ∧ FarM (stAt (stepsC ws ps vs)) (linkB ws vs) ps.length r a A ∧ ∀ (i' : Nat) (y : Vt), i' < 0 → vs[i']? = some y → y.s = a → linkB ws vs a y.t = true → A[y.t.toNat]! ≠ -1) := ⟨A, hA1, hA2, fun i' y h => by omega⟩
                clear hzr hz hA1 hA2 hsz hcur
                have r2 : wr.cell? ⟨b, 2, none⟩ = some (.slice vp vs.length vc) := (hB.cell (p := ⟨b, 2, none⟩) hbl).trans h2
                go_wp2
                go_loopw [7] (fun i wr => ∃ k : Nat, k ≤ vs.length ∧ i = .int .i64 k ∧ Below w.heap.size w wr ∧ Hid (∃ A, Nums wr w.heap.size ps.length A ∧ FarM (stAt (stepsC ws ps vs)) (linkB ws vs) ps.length r a A ∧ ∀ (i' : Nat) (y : Vt), i' < k → vs[i']? = some y → y.s = a → linkB ws vs a y.t = true → A[y.t.toNat]! ≠ -1)) (fun i _ => vs.length - (intOf i).toNat)
                case atStart => exact ⟨0, by omega, rfl, hB, hI0⟩
                case round =>
                  clear hI0 hB r2 hv
                  obtain ⟨k, hk, rfl, hB, hcur⟩ := hrel
                  have r2 : wr.cell? ⟨b, 2, none⟩ = some (.slice vp vs.length vc) := (hB.cell (p := ⟨b, 2, none⟩) hbl).trans h2
                  by_cases hkl : k < vs.length
                  · have hkl' : (k : Int) < (vs.length : Int) := by omega
                    obtain ⟨gv, cap, hgv, _, _, hc, _⟩ := vrow_open h.vrow (by omega)
                    simp only [Value.slice.injEq, true_and] at hgv
                    obtain ⟨rfl, rfl⟩ := hgv
                    have hgl : gv < w.heap.size := VCells.lt hc (by omega)
                    obtain ⟨y, hy⟩ : ∃ y, vs[k]? = some y := ⟨_, List.getElem?_eq_getElem hkl⟩
                    obtain ⟨hc0, hc1, hc2⟩ := VCells.below hc hB hgl k y hy
                    have hym := List.mem_of_getElem? hy
                    obtain ⟨yt0, yt1⟩ := hO.t y hym
                    obtain ⟨A, hA1, hA2, hA3⟩ := hcur.out
                    have hsz := hA2.size
                    obtain ⟨hv, hf⟩ := hA1.cell (j := y.t.toNat) (by omega)
                    obtain ⟨z, hz⟩ : ∃ z, A[y.t.toNat]! = z := ⟨_, rfl⟩
                    rw [hz] at hv
                    have hyl : y.t < (ps.length : Int) := by omega
                    have hgo : (y.s = a → linkB ws vs a y.t = true → A[y.t.toNat]! ≠ -1) → Hid (∃ A, Nums wr w.heap.size ps.length A ∧ FarM (stAt (stepsC ws ps vs)) (linkB ws vs) ps.length r a A ∧ ∀ (i' : Nat) (y : Vt), i' < k + 1 → vs[i']? = some y → y.s = a → linkB ws vs a y.t = true → A[y.t.toNat]! ≠ -1) := fun hh => by
                      refine ⟨A, hA1, hA2, fun i' y' hi' hy' => ?_⟩
                      by_cases e : i' = k
                      · subst e
                        rw [hy] at hy'
                        simp only [Option.some.injEq] at hy'
                        subst hy'
                        exact hh
                      · exact hA3 i' y' (by omega) hy'
                    by_cases e1 : y.s = (a : Int)
                    · have q1 : (y.s != (a : Int)) = false := by simpa using e1
                      by_cases e2 : 0 ≤ z
                      · have HN := hgo (fun _ _ => by omega)
                        clear hgo hA1 hA2 hA3 hcur hc hy
                        clear e1
                        go_wp2
                        go_roundw
                        case rel => exact ⟨k + 1, by omega, by go_num, hB, HN⟩
                        case measure => simp [intOf]; omega
                      · have hz1 : z = -1 := by
                          rcases hA2.ok y.t.toNat yt1 with e | e
                          · omega
                          · have := (hD.le (y.t.toNat : Int) (by omega) (by rw [Int.toNat_natCast]; exact yt1)).1; omega
                        have e2' : ¬ (0 : Int) ≤ z := e2
                        have hz2 : z < 0 := by omega
                        have HE1 : Hid (y.s = (a : Int)) := e1
                        have HZ1 : Hid (z = -1) := hz1
                        have HZ : Hid (A[y.t.toNat]! = z) := hz
                        have hC := h.kept (Chg.of_below (fun _ => False) hB) (fun _ _ hf => hf)
                        have HA : Hid (Nums wr w.heap.size ps.length A ∧ FarM (stAt (stepsC ws ps vs)) (linkB ws vs) ps.length r a A) := ⟨hA1, hA2⟩
                        have HGO : Hid _ := hgo
                        have HA3 : Hid _ := hA3
                        have HY : Hid (vs[k]? = some y) := hy
                        have hglw := hA1.lt
                        clear hgo hA1 hA2 hA3 hcur hc hy e1 hz1 hz e2
                        go_wp2_with fail
                        refine (refLinked_at b S ws ps vs _ _ _ a y.t _ hC hW hl hO).mono ?_
                        rintro e w3 ⟨rfl, hB3⟩
                        have hB4 : Below w.heap.size w w3 := hB.trans (hB3.mono hB.size)
                        obtain ⟨hv3, hf3⟩ : w3.cell? ⟨w.heap.size, y.t.toNat, none⟩ = some (I64 z) ∧ w3.frozen? ⟨w.heap.size, y.t.toNat, none⟩ = false :=
                          ⟨(hB3.cell (p := ⟨w.heap.size, y.t.toNat, none⟩) hglw).trans hv, (hB3.frozen (p := ⟨w.heap.size, y.t.toNat, none⟩) hglw).trans hf⟩
                        cases hlk : linkB ws vs a y.t
                        · have HN : Hid (∃ A, Nums w3 w.heap.size ps.length A ∧ FarM (stAt (stepsC ws ps vs)) (linkB ws vs) ps.length r a A ∧ ∀ (i' : Nat) (y : Vt), i' < k + 1 → vs[i']? = some y → y.s = a → linkB ws vs a y.t = true → A[y.t.toNat]! ≠ -1) := by
                            obtain ⟨A', a1, a2, a3⟩ := (HGO.out (fun _ h => by rw [hlk] at h; cases h)).out
                            exact ⟨A', a1.below hB3 hglw, a2, a3⟩
                          clear hlk HGO HA HA3
                          go_wp2
                          go_roundw
                          case rel => exact ⟨k + 1, by omega, by go_num, hB4, HN⟩
                          case measure => simp [intOf]; omega
                        · have HN : Hid (∃ A, Nums (w3.setCell ⟨w.heap.size, y.t.toNat, none⟩ (I64 r)) w.heap.size ps.length A ∧ FarM (stAt (stepsC ws ps vs)) (linkB ws vs) ps.length r a A ∧ ∀ (i' : Nat) (y : Vt), i' < k + 1 → vs[i']? = some y → y.s = a → linkB ws vs a y.t = true → A[y.t.toNat]! ≠ -1) := by
                            obtain ⟨a1, a2⟩ := HA.out
                            have hsz := a2.size
                            have hup : (a : Int) ∈ up ps (y.t.toNat : Int) := by
                              rw [Int.toNat_of_nonneg yt0, ← HE1.out]; exact ahead_mem.1 (hO.a y hym)
                            have hpos' : 0 < y.t.toNat := by
                              have := mem_up_lt hT (by omega) (by rw [Int.toNat_natCast]; exact yt1) hup; omega
                            have hnew : ∀ c : Nat, c < ps.length → (A.set! y.t.toNat (r : Int))[c]! = if c = y.t.toNat then (r : Int) else A[c]! := fun c hc => by
                              simp only [Array.set!_eq_setIfInBounds]
                              by_cases e : c = y.t.toNat
                              · subst e; simp [hsz, hc]
                              · rw [if_neg e]
                                simp [Array.getElem!_eq_getD, Array.getD_eq_getD_getElem?, Array.getElem?_setIfInBounds_ne (Ne.symm e)]
                            refine ⟨_, (a1.below hB3 hglw).set (j := y.t.toNat) (by omega) (r : Int), a2.put hD a y.t.toNat yt1 hpos' hup (by rw [Int.toNat_of_nonneg yt0]; exact hlk) HD.out (by rw [HZ.out]; exact HZ1.out) (by omega), fun i' y' hi' hy' hs' hl' => ?_⟩
                            have hy't := hO.t y' (List.mem_of_getElem? hy')
                            rw [hnew _ hy't.2]
                            split
                            · omega
                            · rename_i hne
                              by_cases e : i' = k
                              · subst e
                                have e3 := HY.out.symm.trans hy'
                                simp only [Option.some.injEq] at e3
                                subst e3
                                exact absurd rfl hne
                              · exact HA3.out i' y' (by omega) hy' hs' hl'
                          clear hlk HGO HA HA3
                          have hBn : Below w.heap.size w (w3.setCell ⟨w.heap.size, y.t.toNat, none⟩ (I64 r)) := hB4.setCell (p := ⟨w.heap.size, y.t.toNat, none⟩) (Nat.le_refl _) _
                          go_wp2
                          go_roundw
                          case rel => exact ⟨k + 1, by omega, by go_num, hBn, HN⟩
                          case measure => simp [intOf]; omega
                    · have q1 : (y.s != (a : Int)) = true := by simpa using e1
                      have HN := hgo (fun e _ => absurd e e1)
                      clear hgo hA1 hA2 hA3 hcur hc hy e1
                      go_wp2
                      go_roundw
                      case rel => exact ⟨k + 1, by omega, by go_num, hB, HN⟩
                      case measure => simp [intOf]; omega
                  · have HN : Hid (∃ A, Nums wr w.heap.size ps.length A ∧ FarM (stAt (stepsC ws ps vs)) (linkB ws vs) ps.length r (a + 1) A) := by
                      obtain ⟨A, a1, a2, a3⟩ := hcur.out
                      refine ⟨A, a1, a2.next (vs := vs) (fun c hc => linkB_vote hW.sum.1 hc) (fun y hy hs' hl' => ?_)⟩
                      obtain ⟨i', hi'⟩ := List.getElem?_of_mem hy
                      exact a3 i' y (by have := (List.getElem?_eq_some_iff.1 hi').1; omega) hi' hs' hl'
                    clear hcur
                    go_wp2
                    go_roundw
                    case rel => exact ⟨a + 1, by omega, by go_num, hB, HN⟩
                    case measure => simp [intOf]; omega
              · have q : (z != (r : Int) - 1) = true := by simpa using hzr
                have HN : Hid (∃ A, Nums wr w.heap.size ps.length A ∧ FarM (stAt (stepsC ws ps vs)) (linkB ws vs) ps.length r (a + 1) A) := ⟨A, hA1, hA2.skip hal (by rw [hz]; exact hzr)⟩
                clear hzr hz hA1 hA2 hsz hcur
                go_wp2
                go_roundw
                case rel => exact ⟨a + 1, by omega, by go_num, hB, HN⟩
                case measure => simp [intOf]; omega
            · have ha' : a = ps.length := by omega
              subst ha'
              have HN : Hid (∃ A, Nums wr w.heap.size ps.length A ∧ FarB (stAt (stepsC ws ps vs)) ps.length ((r + 1 : Nat) : Int) A) := by
                obtain ⟨A, a1, a2⟩ := hcur.out
                refine ⟨A, a1, ?_⟩
                have := a2.end' hD hT (by omega) (by omega)
                simpa using this
              clear hcur
              go_wp2
              go_roundw
              case rel => exact ⟨r + 1, by omega, by omega, by go_num, hB, HN⟩
              case measure => simp [intOf]; omega
        · have hr' : r = ps.length := by omega
          subst hr'
          go_wp2
          go_ret
          obtain ⟨A, a1, a2⟩ := hcur.out
          exact ⟨⟨w.heap.size, A, rfl, Nat.le_refl _, a1, a2.size, fun j hj => a2.all hD hT j hj⟩, hB⟩
end Go.Proofs.YtgebcnnenhgkcaaGreat
/- The document's own Court: Just, Last, Final. -/
namespace Go.Proofs.YtgebcnnenhgkcaaGreat
open Go.RowKit

theorem isJust_far {ws ps : List Int} {vs : List Vt} (hT : Tree ps) {j : Nat} (hj : j < ps.length) : isJust ws ps vs j = decide (0 ≤ farOf (stAt (stepsC ws ps vs) j)) := by
  have hD : IsSteps (linkB ws vs) ps (stAt (stepsC ws ps vs)) := stepsL_is (linkB ws vs) hT
  have := hD.le j (by omega) (by simpa using hj)
  unfold isJust farOf
  by_cases e : stAt (stepsC ws ps vs) j = 40
  · rw [if_pos e]; simp [e]
  · rw [if_neg e]
    have e1 : (stAt (stepsC ws ps vs) j != 40) = true := by simpa using e
    rw [e1, decide_eq_true this.1]

set_option maxRecDepth 100000 in
set_option maxHeartbeats 2000000 in
theorem refJust_at (b : Nat) (S : Nat → Prop) (ws ps : List Int) (vs : List Vt) (wv pv vv : Value) (w : World) (h : RefAt w b S ws ps vs wv pv vv) (hT : Tree ps) (hW : OkWs ws) (hl : vs.length ≤ 300) (hO : OkV ws.length ps vs) :
    Calls Tryz.prog 75 #[.pointer (some ⟨b, 0, none⟩)] w fun e w' => (∃ v, e = .returned v ∧ w'.ownsRow w.heap.size 3 1 v (justL ws ps vs).length ((justL ws ps vs).map I64)) ∧ Below w.heap.size w w' := by
  obtain ⟨i0, hi, hz0, hz1, hz2⟩ := info_parts info_int
  have hlen : ps.length ≤ 40 := hT.2.1
  go_enter Tryz.func75, Tryz.ntmps75
  go_wp2_with fail
  refine (refFar_at b S ws ps vs _ _ _ _ h hT hW hl hO).mono ?_
  rintro e w1 ⟨⟨g, A, rfl, hg, hN, hsz, hA⟩, hB1⟩
  have hgl := hN.lt
  have HA : Hid (∀ j, j < ps.length → isJust ws ps vs j = decide (0 ≤ A[j]!)) := fun j hj => by rw [hA j hj]; exact isJust_far hT hj
  clear hA
  go_wp2
  go_loopw [4, 5] (fun v i wr => ∃ k : Nat, k ≤ ps.length ∧ i = .int .i64 k ∧ Below w1.heap.size w1 wr ∧ wr.ownsRow w1.heap.size 3 1 v (justN ws ps vs k).length ((justN ws ps vs k).map I64)) (fun _ i _ => ps.length - (intOf i).toNat)
  case atStart => exact ⟨0, by omega, rfl, Below.refl _ _, World.ownsRow_nil _ _ _ _⟩
  case round =>
    obtain ⟨k, hk, rfl, hB, hown⟩ := hrel
    have hz := hB.size
    by_cases hlt : k < ps.length
    · have hlt' : (k : Int) < (ps.length : Int) := by omega
      obtain ⟨x, hx⟩ : ∃ x, A[k]! = x := ⟨_, rfl⟩
      have hc : wr.cell? ⟨g, k, none⟩ = some (I64 x) := by
        rw [← hx]; exact ((hN.below hB hgl).cell (j := k) (by omega)).1
      have HJ : Hid (isJust ws ps vs k = decide (0 ≤ x)) := by show _ = _; rw [← hx]; exact HA.out k hlt
      have HS : Hid _ := justN_succ ws ps vs k
      have hnk := justN_length ws ps vs k
      clear hx
      obtain ⟨Z, hZ⟩ : ∃ Z, justN ws ps vs k = Z := ⟨_, rfl⟩
      rw [hZ] at hown hnk
      have HZ : Hid (justN ws ps vs k = Z) := hZ
      clear hZ
      by_cases h40 : 0 ≤ x
      · have HS' : Hid (justN ws ps vs (k + 1) = Z ++ [(k : Int)]) := by show _ = _; rw [HS.out, HZ.out, HJ.out]; simp [h40]
        clear HJ HS
        have h63 : Hid (Z.length + 1 ≤ maxLen) := by show _ ≤ _; unfold maxLen; omega
        go_wp2_with (at_builtin; refine wpList_append_own _ (by rfl) _ _ _ (by rfl) w1.heap.size 3 i0 (I64 0) 1 8 Tryz.underlying22 hi hz0 hz1 hz2 rfl (by omega) _ Z.length (Z.map I64) (by rfl) (hown.alloc _) ⟨wr.heap.size, 0, none⟩ 1 1 [I64 k] (by rfl) (by rfl) (cell_one_new _ _ _) (by simp [Value.oneCell']) h63.out (by omega) (by simp; omega) ?_; intro v1 w2 hown1 hgrow1 hnil1)
        go_roundw
        case rel => exact ⟨k + 1, by omega, by go_num, (hB.alloc hz _).grown hgrow1 (by simp; omega) (fun j e => (hown.lt j e).1), by rw [HS'.out, List.map_append, List.length_append]; exact hown1⟩
        case measure => simp [intOf]; omega
      · have HS' : Hid (justN ws ps vs (k + 1) = Z) := by show _ = _; rw [HS.out, HZ.out, HJ.out]; simp [h40]
        clear HJ HS
        go_wp2
        go_roundw
        case rel => exact ⟨k + 1, by omega, by go_num, hB, by rw [HS'.out]; exact hown⟩
        case measure => simp [intOf]; omega
    · have hk' : k = ps.length := by omega
      subst hk'
      go_wp2
      go_ret
      exact ⟨⟨_, rfl, row_lower hown hB1.size⟩, hB1.trans (hB.mono hB1.size)⟩

set_option maxRecDepth 100000 in
set_option maxHeartbeats 2000000 in
theorem refLast_at (b : Nat) (S : Nat → Prop) (ws ps : List Int) (vs : List Vt) (wv pv vv : Value) (a : Int) (w : World) (h : RefAt w b S ws ps vs wv pv vv) (hT : Tree ps) (hW : OkWs ws) (hl : vs.length ≤ 300) (hO : OkV ws.length ps vs) :
    Calls Tryz.prog 80 #[.pointer (some ⟨b, 0, none⟩), .int .i64 a] w fun e w' => e = .returned (.bool (childF ws ps vs a).isSome) ∧ Below w.heap.size w w' := by
  have h1 := h.c1
  have hbl := h.lt b h.inb
  have hlen : ps.length ≤ 40 := hT.2.1
  have hpos := hT.1
  obtain ⟨g0, cap0, rfl, _, _, hcs, _⟩ := row_open h.prow hT.1
  have hgl : g0 < w.heap.size := World.block_lt_of_cell? w _ (hcs 0 hT.1)
  have HCS : Hid (∀ j, j < ps.length → w.cell? ⟨g0, j, none⟩ = some (I64 (ps[j]?.getD 0))) := hcs
  clear hcs
  go_enter Tryz.func80, Tryz.ntmps80
  go_wp2
  go_loopw [5] (fun i wr => ∃ k : Nat, 1 ≤ k ∧ k ≤ ps.length ∧ i = .int .i64 k ∧ Below w.heap.size w wr ∧ Hid (childN ws ps vs a k = none)) (fun i _ => ps.length - (intOf i).toNat)
  case atStart => exact ⟨1, by omega, by omega, rfl, Below.refl _ _, by show _ = _; rw [childN_succ ws ps vs a 0 rfl]; rfl⟩
  case round =>
    obtain ⟨k, hk1, hk, rfl, hB, hno⟩ := hrel
    have r1 : wr.cell? ⟨b, 1, none⟩ = some (.slice (some ⟨g0, 0, none⟩) ps.length cap0) := (hB.cell (p := ⟨b, 1, none⟩) hbl).trans h1
    by_cases hlt : k < ps.length
    · have hlt' : (k : Int) < (ps.length : Int) := by omega
      obtain ⟨p, hp⟩ : ∃ p, ps[k]?.getD 0 = p := ⟨_, rfl⟩
      have hc : wr.cell? ⟨g0, k, none⟩ = some (I64 p) := by rw [← hp]; exact (hB.cell (p := ⟨g0, k, none⟩) hgl).trans (HCS.out k hlt)
      have HN := childN_succ ws ps vs a k hno.out
      have hch : isChild ws ps vs a k = ((p == a) && linkB ws vs a k) := by
        unfold isChild
        have e1 : ((k : Int) != 0) = true := by simp; omega
        rw [e1, Int.toNat_natCast, hp]; rfl
      rw [hch] at HN
      clear hch hp
      have hC := h.kept (Chg.of_below (fun _ => False) hB) (fun _ _ hf => hf)
      by_cases e1 : p = a
      · have q1 : (p != a) = false := by simpa using e1
        have q2 : (p == a) = true := by simpa using e1
        rw [q2] at HN
        have HN' : Hid _ := HN
        clear HN e1
        go_wp2_with fail
        refine (refLinked_at b S ws ps vs _ _ _ a k _ hC hW hl hO).mono ?_
        rintro e w4 ⟨rfl, hB4⟩
        have hB5 : Below w.heap.size w w4 := hB.trans (hB4.mono hB.size)
        cases hlk : linkB ws vs a k
        · have HN2 : Hid (childN ws ps vs a (k + 1) = none) := by show _ = _; rw [HN'.out, hlk]; rfl
          clear hlk HN'
          go_wp2
          go_roundw
          case rel => exact ⟨k + 1, by omega, by omega, by go_num, hB5, HN2⟩
          case measure => simp [intOf]; omega
        · have HN2 : Hid (childF ws ps vs a = some (k : Int)) := by
            show _ = _
            exact childN_some (k := k + 1) (by rw [HN'.out, hlk]; rfl) (by omega)
          clear hlk HN'
          go_wp2
          go_ret
          exact ⟨by rw [HN2.out]; rfl, hB5⟩
      · have q1 : (p != a) = true := by simpa using e1
        have q2 : (p == a) = false := by simpa using e1
        rw [q2] at HN
        have HN2 : Hid (childN ws ps vs a (k + 1) = none) := HN
        clear HN e1
        go_wp2
        go_roundw
        case rel => exact ⟨k + 1, by omega, by omega, by go_num, hB, HN2⟩
        case measure => simp [intOf]; omega
    · have hk' : k = ps.length := by omega
      subst hk'
      go_wp2
      go_ret
      have : childF ws ps vs a = none := hno.out
      exact ⟨by rw [this]; rfl, hB⟩

set_option maxRecDepth 100000 in
set_option maxHeartbeats 2000000 in
theorem refFinal_at (b : Nat) (S : Nat → Prop) (ws ps : List Int) (vs : List Vt) (wv pv vv : Value) (w : World) (h : RefAt w b S ws ps vs wv pv vv) (hT : Tree ps) (hW : OkWs ws) (hl : vs.length ≤ 300) (hO : OkV ws.length ps vs) :
    Calls Tryz.prog 76 #[.pointer (some ⟨b, 0, none⟩)] w fun e w' => (∃ v, e = .returned v ∧ w'.ownsRow w.heap.size 3 1 v (finalL ws ps vs).length ((finalL ws ps vs).map I64)) ∧ Below w.heap.size w w' := by
  obtain ⟨i0, hi, hz0, hz1, hz2⟩ := info_parts info_int
  have hlen : ps.length ≤ 40 := hT.2.1
  go_enter Tryz.func76, Tryz.ntmps76
  go_wp2_with fail
  refine (refJust_at b S ws ps vs _ _ _ _ h hT hW hl hO).mono ?_
  rintro e w1 ⟨⟨v, rfl, hrow⟩, hB1⟩
  obtain ⟨vp, vc, hvv⟩ : ∃ vp vc, v = .slice vp (justL ws ps vs).length vc := by
    rcases hrow.2 with ⟨h', h''⟩ | ⟨g, cap, cur, h', _⟩
    · exact ⟨none, 0, by rw [h', h'']⟩
    · exact ⟨_, _, h'⟩
  subst hvv
  have hjl : (justL ws ps vs).length ≤ ps.length := justN_length ws ps vs ps.length
  obtain ⟨l, hll⟩ : ∃ l, justL ws ps vs = l := ⟨_, rfl⟩
  have HLL : Hid (justL ws ps vs = l) := hll
  rw [hll] at hrow hjl ⊢
  clear hll
  go_wp2
  go_loopw [4, 5] (fun v i wr => ∃ k : Nat, k ≤ l.length ∧ i = .int .i64 k ∧ Below w1.heap.size w1 wr ∧ wr.ownsRow w1.heap.size 3 1 v ((l.take k).filter (fun x => (childF ws ps vs x).isSome)).length (((l.take k).filter (fun x => (childF ws ps vs x).isSome)).map I64)) (fun _ i _ => l.length - (intOf i).toNat)
  case atStart => exact ⟨0, by omega, rfl, Below.refl _ _, World.ownsRow_nil _ _ _ _⟩
  case round =>
    obtain ⟨k, hk, rfl, hB, hown⟩ := hrel
    have hz := hB.size
    by_cases hlt : k < l.length
    · have hlt' : (k : Int) < (l.length : Int) := by omega
      obtain ⟨gl, capl, hgl, _, _, hcl, _⟩ := row_open (row_low hrow) (by omega)
      simp only [Value.slice.injEq, true_and] at hgl
      obtain ⟨rfl, rfl⟩ := hgl
      obtain ⟨y, hy⟩ : ∃ y, l[k]? = some y := ⟨_, List.getElem?_eq_getElem hlt⟩
      have hgll : gl < w1.heap.size := World.block_lt_of_cell? w1 _ (hcl k hlt)
      have hc : wr.cell? ⟨gl, k, none⟩ = some (I64 y) := by rw [hB.cell (p := ⟨gl, k, none⟩) hgll, hcl k hlt, hy]; rfl
      have hC := h.kept (Chg.of_below (fun _ => False) (hB1.trans (hB.mono hB1.size))) (fun _ _ hf => hf)
      have HS : Hid ((l.take (k + 1)).filter (fun x => (childF ws ps vs x).isSome) = (l.take k).filter (fun x => (childF ws ps vs x).isSome) ++ (if (childF ws ps vs y).isSome = true then [y] else [])) := by
        show _ = _
        rw [List.take_add_one, hy]
        by_cases e : (childF ws ps vs y).isSome = true
        · simp [List.filter_append, e]
        · simp [List.filter_append, e]
      clear hcl hy
      obtain ⟨z, hzz⟩ : ∃ z, (l.take k).filter (fun x => (childF ws ps vs x).isSome) = z := ⟨_, rfl⟩
      have hnk : z.length ≤ k := by
        rw [← hzz]; exact Nat.le_trans (List.length_filter_le _ _) (by simp; omega)
      rw [hzz] at hown
      have HZ : Hid ((l.take k).filter (fun x => (childF ws ps vs x).isSome) = z) := hzz
      clear hzz
      go_wp2_with fail
      refine (refLast_at b S ws ps vs _ _ _ y wr hC hT hW hl hO).mono ?_
      rintro e w3 ⟨rfl, hB3⟩
      have hown3 := row_below hown hB3 (Nat.le_refl _)
      have hB4 : Below w1.heap.size w1 w3 := hB.trans (hB3.mono hz)
      have hz4 := hB4.size
      have hc3 : w3.cell? ⟨gl, k, none⟩ = some (I64 y) := (hB3.cell (p := ⟨gl, k, none⟩) (by dsimp only; omega)).trans hc
      cases hch : (childF ws ps vs y).isSome
      · have HS' : Hid ((l.take (k + 1)).filter (fun x => (childF ws ps vs x).isSome) = z) := by show _ = _; rw [HS.out, hch, HZ.out]; simp
        clear HS hch
        go_wp2
        go_roundw
        case rel => exact ⟨k + 1, by omega, by go_num, hB4, by rw [HS'.out]; exact hown3⟩
        case measure => simp [intOf]; omega
      · have HS' : Hid ((l.take (k + 1)).filter (fun x => (childF ws ps vs x).isSome) = z ++ [y]) := by show _ = _; rw [HS.out, hch, HZ.out]; simp
        clear HS hch
        have h63 : Hid (z.length + 1 ≤ maxLen) := by show _ ≤ _; unfold maxLen; omega
        go_wp2_with (at_builtin; refine wpList_append_own _ (by rfl) _ _ _ (by rfl) w1.heap.size 3 i0 (I64 0) 1 8 Tryz.underlying22 hi hz0 hz1 hz2 rfl (by omega) _ z.length (z.map I64) (by rfl) (hown3.alloc _) ⟨w3.heap.size, 0, none⟩ 1 1 [I64 y] (by rfl) (by rfl) (cell_one_new _ _ _) (by simp [Value.oneCell']) h63.out (by omega) (by simp; omega) ?_; intro v1 w2 hown1 hgrow1 hnil1)
        go_roundw
        case rel => exact ⟨k + 1, by omega, by go_num, (hB4.alloc hz4 _).grown hgrow1 (by simp; omega) (fun j e => (hown3.lt j e).1), by rw [HS'.out, List.map_append, List.length_append]; exact hown1⟩
        case measure => simp [intOf]; omega
    · have hk' : k = l.length := by omega
      subst hk'
      rw [List.take_length] at hown
      go_wp2
      go_ret
      unfold finalL
      rw [HLL.out]
      exact ⟨⟨_, rfl, row_lower hown hB1.size⟩, hB1.trans (hB.mono hB1.size)⟩
end Go.Proofs.YtgebcnnenhgkcaaGreat
