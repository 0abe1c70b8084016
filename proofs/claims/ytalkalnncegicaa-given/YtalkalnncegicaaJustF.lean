/- Just: that it returns, and leaves the Court as it was. -/
import Derived.Test.YtalkalnncegicaaVoteA
import Derived.Test.YtalkalnncegicaaNewA
namespace Go.Proofs.Ytalkalnncegicaa
open Go.RowKit Go.Shelf
attribute [local go_sem] Oper.semAt_some

theorem total_any (g c : Nat) (ws : List Int) (w : World) (hx : ∀ j, j < ws.length → w.cell? ⟨g, j, none⟩ = some (I64 (ws[j]?.getD 0))) (hl : ws.length ≤ 12) :
    Calls Try.prog 106 #[.slice (some ⟨g, 0, none⟩) ws.length c] w fun e w' => (∃ n : Int, e = .returned (.int .i64 n)) ∧ w' = w := by
  have HX : Hid (∀ j, j < ws.length → w.cell? ⟨g, j, none⟩ = some (I64 (ws[j]?.getD 0))) := hx
  clear hx
  go_enter Try.func106, Try.ntmps106
  go_wp2
  go_loop [3, 8] (fun t i => ∃ (k : Nat) (n : Int), k ≤ ws.length ∧ i = .int .i64 k ∧ t = .int .i64 n) (fun _ i => ws.length - (intOf i).toNat)
  case atStart => exact ⟨0, 0, by omega, rfl, rfl⟩
  case round =>
    obtain ⟨k, n, hk, rfl, rfl⟩ := hrel
    by_cases hlt : k < ws.length
    · have hlt' : (k : Int) < (ws.length : Int) := by omega
      obtain ⟨x, hxk⟩ : ∃ x, ws[k]?.getD 0 = x := ⟨_, rfl⟩
      have hc : w.cell? ⟨g, k, none⟩ = some (I64 x) := by rw [← hxk]; exact HX.out k hlt
      clear hxk
      go_wp2
      go_round
      case rel => exact ⟨k + 1, _, by omega, by go_num, rfl⟩
      case measure => simp [intOf]; omega
    · go_wp2
      go_ret
      exact ⟨⟨_, rfl⟩, rfl⟩

theorem enoughW_any (g c : Nat) (ws : List Int) (p : Int) (w : World) (hx : ∀ j, j < ws.length → w.cell? ⟨g, j, none⟩ = some (I64 (ws[j]?.getD 0))) (hl : ws.length ≤ 12) :
    Calls Try.prog 97 #[.slice (some ⟨g, 0, none⟩) ws.length c, .int .i64 p] w fun e w' => (∃ r : Bool, e = .returned (.bool r)) ∧ w' = w := by
  go_enter Try.func97, Try.ntmps97
  go_wp2_with fail
  refine (total_any g c ws _ hx hl).mono ?_
  rintro e w1 ⟨⟨n, rfl⟩, rfl⟩
  clear hx
  go_wp2
  go_ret
  exact ⟨⟨_, rfl⟩, rfl⟩

set_option maxRecDepth 100000 in
set_option maxHeartbeats 2000000 in
theorem enough_any (b : Nat) (S : Nat → Prop) (m : Int) (ws ps : List Int) (vs : List Vt) (wv pv vv : Value) (s t : Int) (w : World) (h : CourtAt w b S m ws ps vs wv pv vv) (hw : 0 < ws.length) (hw2 : ws.length ≤ 12) (hl : vs.length ≤ 300) (hov : ∀ y ∈ vs, 0 ≤ y.v ∧ y.v < ws.length) :
    Calls Try.prog 83 #[.pointer (some ⟨b, 0, none⟩), .int .i64 s, .int .i64 t] w fun e w' => (∃ r : Bool, e = .returned (.bool r)) ∧ Below w.heap.size w w' := by
  obtain ⟨gw, capw, rfl, _, _, hcw, _⟩ := row_open h.wrow hw
  have hbl := h.lt b h.inb
  have h2 := h.c2
  have h4 := h.c4
  have hgwl : gw < w.heap.size := World.block_lt_of_cell? w _ (hcw 0 hw)
  obtain ⟨vp, vc, hvv⟩ : ∃ vp vc, vv = .slice vp vs.length vc := by
    rcases h.vrow.2 with ⟨h', h''⟩ | ⟨g, cap, cur, h', _⟩
    · exact ⟨none, 0, by rw [h', h'']⟩
    · exact ⟨_, _, h'⟩
  subst hvv
  have HCW : Hid (∀ j, j < ws.length → w.cell? ⟨gw, j, none⟩ = some (I64 (ws[j]?.getD 0))) := hcw
  have HOV : Hid (∀ y ∈ vs, 0 ≤ y.v ∧ y.v < ws.length) := hov
  clear hcw hov
  go_enter Try.func83, Try.ntmps83
  go_wp2
  go_loopw [7, 15] (fun t i wr => ∃ (k : Nat) (n : Int), k ≤ vs.length ∧ i = .int .i64 k ∧ t = .int .i64 n ∧ Below w.heap.size w wr) (fun _ i _ => vs.length - (intOf i).toNat)
  case atStart => exact ⟨0, 0, by omega, rfl, rfl, Below.refl _ _⟩
  case round =>
    obtain ⟨k, n, hk, rfl, rfl, hB⟩ := hrel
    have hz := hB.size
    have r2 : wr.cell? ⟨b, 2, none⟩ = some (.slice (some ⟨gw, 0, none⟩) ws.length capw) := (hB.cell (p := ⟨b, 2, none⟩) hbl).trans h2
    by_cases hlt : k < vs.length
    · obtain ⟨gv, cap, hgv, _, _, hc, _⟩ := vrow_open h.vrow (by omega)
      simp only [Value.slice.injEq, true_and] at hgv
      obtain ⟨rfl, rfl⟩ := hgv
      have hgl : gv < w.heap.size := VCells.lt hc (by omega)
      obtain ⟨y, hy⟩ : ∃ y, vs[k]? = some y := ⟨_, List.getElem?_eq_getElem hlt⟩
      obtain ⟨hc0, hc1, hc2⟩ := VCells.below hc hB hgl k y hy
      obtain ⟨y0, y1⟩ := HOV.out y (List.mem_of_getElem? hy)
      clear hc hy
      have hlt' : (k : Int) < (vs.length : Int) := by omega
      obtain ⟨x, hxk⟩ : ∃ x, ws[y.v.toNat]?.getD 0 = x := ⟨_, rfl⟩
      have hcx : wr.cell? ⟨gw, y.v.toNat, none⟩ = some (I64 x) := by rw [← hxk]; exact (hB.cell (p := ⟨gw, y.v.toNat, none⟩) hgwl).trans (HCW.out _ (by omega))
      clear hxk
      have hgr : gw < wr.heap.size := by omega
      have hbr : b < wr.heap.size := by omega
      have hBn := hB.alloc hz (.cells #[I64 y.v, I64 y.s, I64 y.t] 47)
      by_cases e1 : y.s = s
      · by_cases e2 : y.t = t
        · have q1 : (y.s == s) = true := by simpa using e1
          have q2 : (y.t == t) = true := by simpa using e2
          clear e1 e2
          go_wp2
          go_quiet (fail)
          go_wp2
          go_roundw
          case rel => exact ⟨k + 1, _, by omega, by go_num, rfl, below_drewN hBn _⟩
          case measure => simp [intOf]; omega
        · have q1 : (y.s == s) = true := by simpa using e1
          have q2 : (y.t == t) = false := by simpa using e2
          clear e1 e2
          go_wp2
          go_roundw
          case rel => exact ⟨k + 1, _, by omega, by go_num, rfl, hBn⟩
          case measure => simp [intOf]; omega
      · have q1 : (y.s == s) = false := by simpa using e1
        clear e1
        go_wp2
        go_roundw
        case rel => exact ⟨k + 1, _, by omega, by go_num, rfl, hBn⟩
        case measure => simp [intOf]; omega
    · go_wp2_with fail
      refine (enoughW_any gw capw ws _ _ (fun j hj => (hB.cell (p := ⟨gw, j, none⟩) hgwl).trans (HCW.out j hj)) hw2).mono ?_
      rintro e w1 ⟨⟨r, rfl⟩, rfl⟩
      go_wp2
      go_ret
      exact ⟨⟨_, rfl⟩, hB⟩
end Go.Proofs.Ytalkalnncegicaa
