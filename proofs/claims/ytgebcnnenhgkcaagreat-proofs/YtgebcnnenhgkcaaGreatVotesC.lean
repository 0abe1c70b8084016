/- A script over both Courts, and all that can be asked of them. -/
import Derived.Test.YtgebcnnenhgkcaaGreatVotesB
import Derived.Test.YtgebcnnenhgkcaaGreatOpsA
namespace Go.Proofs.YtgebcnnenhgkcaaGreat
open Go.RowKit

set_option maxHeartbeats 2000000 in
/-- One step of the kinds up to Guilty. -/
theorem stepV_at (Pr : Nat → Prop) (x : Nat) (ws : List Int) (kd k a b' c : Int) (wsv : Value) (w : World) (h : Alike2 w Pr x ws) (hk : kd ≤ 5) :
    Calls Tryz.prog 11 #[.pointer (some ⟨x, 0, none⟩), opVal kd k a b' c wsv] w fun e w' => e = .returned (.bool true) ∧ Alike2 w' Pr x ws ∧ Chg (fun k => ¬ Pr k) w w' := by
  obtain ⟨ps, vs, h⟩ := h
  by_cases h2 : kd ≤ 2
  · exact step_at Pr x ws ps vs kd k a b' c wsv w h h2
  have hB1 : Below w.heap.size w (w.alloc (.cells #[I64 kd, I64 k, I64 a, I64 b', I64 c, wsv] 34)) := (Below.refl _ _).alloc (Nat.le_refl _) _
  have h1 := h.kept hB1
  have hc1 := Chg.of_below (fun k => ¬ Pr k) hB1
  by_cases e3 : kd = 3
  · subst e3
    go_enter Tryz.func11, Tryz.ntmps11
    go_wp2_with fail
    refine (justLaw_at Pr x ws ps vs _ h1).mono ?_
    rintro e w2 ⟨⟨v, rfl, _⟩, h2, hB2⟩
    go_wp2
    go_ret
    exact ⟨rfl, ⟨_, _, h2⟩, hc1.trans hB2⟩
  by_cases e4 : kd = 4
  · subst e4
    go_enter Tryz.func11, Tryz.ntmps11
    go_wp2_with fail
    refine (finalLaw_at Pr x ws ps vs _ h1).mono ?_
    rintro e w2 ⟨⟨v, rfl, _⟩, h2, hB2⟩
    go_wp2
    go_ret
    exact ⟨rfl, ⟨_, _, h2⟩, hc1.trans hB2⟩
  · have e5 : kd = 5 := by omega
    subst e5
    go_enter Tryz.func11, Tryz.ntmps11
    go_wp2_with fail
    refine (guiltyLaw_at Pr x ws ps vs _ h1).mono ?_
    rintro e w2 ⟨⟨v, rfl, _⟩, h2, hB2⟩
    go_wp2
    go_ret
    exact ⟨rfl, ⟨_, _, h2⟩, hc1.trans hB2⟩

set_option maxHeartbeats 2000000 in
theorem whole_at (Pr : Nat → Prop) (x : Nat) (ws : List Int) (w : World) (h : Alike2 w Pr x ws) :
    Calls Tryz.prog 31 #[.pointer (some ⟨x, 0, none⟩), .bool false] w fun e w' => e = .returned (.bool true) ∧ Chg (fun k => ¬ Pr k) w w' := by
  obtain ⟨ps, vs, h⟩ := h
  go_enter Tryz.func31, Tryz.ntmps31
  go_wp2_with fail
  refine (justLaw_at Pr x ws ps vs _ h).mono ?_
  rintro e w1 ⟨⟨v1, rfl, _⟩, h1, hB1⟩
  go_wp2_with fail
  refine (finalLaw_at Pr x ws ps vs _ h1).mono ?_
  rintro e w2 ⟨⟨v2, rfl, _⟩, h2, hB2⟩
  go_wp2_with fail
  refine (guiltyLaw_at Pr x ws ps vs _ h2).mono ?_
  rintro e w3 ⟨⟨v3, rfl, _⟩, h3, hB3⟩
  obtain ⟨b, rb, S, R, hb⟩ := h3
  have hx1 := hb.x1
  obtain ⟨rwv, rpv, rvv, hR⟩ := hb.doc
  obtain ⟨g0, cap0, rfl, _, _, _, _⟩ := row_open hR.prow hb.T.1
  have hr1 := hR.c1
  have hpos := hb.T.1
  go_wp2
  go_rounds 1
  go_ret
  exact ⟨rfl, (hB1.trans hB2).trans hB3⟩

set_option maxRecDepth 100000 in
set_option maxHeartbeats 4000000 in
theorem play_at (p sp : Option Addr) (c sc : Nat) (ws : List Int) (ops : List OpD) (w : World) (hx : IntsAt w p ws) (hp : p = none ∨ ∃ g o, p = some ⟨g, o, none⟩) (hn : p = none → c = 0 ∧ ws = []) (hb : (ws.length + 3) * 8 ≤ 140737488355328) (hops : OpsAt w sp ops) (hol : ops.length ≤ maxLen) :
    Calls Tryz.prog 8 #[.slice p ws.length c, .slice sp ops.length sc, .int .i64 5] w fun e w' => e = .returned (.bool true) ∧ Below w.heap.size w w' := by
  have hol' : ops.length ≤ 9223372036854775807 := by unfold maxLen at hol; omega
  cases hok : okW ws
  · go_enter Tryz.func8, Tryz.ntmps8
    go_wp2_with fail
    refine (begun_no p c ws _ hx hp hn hb hok).mono ?_
    rintro e w1 ⟨rfl, hB1⟩
    go_wp2
    go_ret
    exact ⟨rfl, hB1⟩
  · go_enter Tryz.func8, Tryz.ntmps8
    go_wp2_with fail
    refine (begun_ok p c ws _ hx hp hn hb hok).mono ?_
    rintro e w1 ⟨x, rfl, hBo, hB1⟩
    have hA1 : Alike2 w1 (fun k => k < w.heap.size) x ws := ⟨_, _, hBo⟩
    have hcw1 : Chg (fun k => ¬ (k < w.heap.size)) w w1 := Chg.of_below _ hB1
    have HO : Hid (OpsAt w sp ops) := hops
    clear hops hB1 hBo
    go_wp2
    go_loopw [9] (fun ii wr => ∃ i : Nat, i ≤ ops.length ∧ ii = .int .i64 i ∧ Alike2 wr (fun k => k < w.heap.size) x ws ∧ Chg (fun k => ¬ (k < w.heap.size)) w wr) (fun ii _ => ops.length - (intOf ii).toNat)
    case atStart => exact ⟨0, by omega, rfl, hA1, hcw1⟩
    case round =>
      clear hA1 hcw1
      obtain ⟨i, hi, rfl, hA, hcw⟩ := hrel
      by_cases hlt : i < ops.length
      · have hlt' : (i : Int) < (ops.length : Int) := by omega
        obtain ⟨y, hy⟩ : ∃ y, ops[i]? = some y := ⟨_, List.getElem?_eq_getElem hlt⟩
        rcases HO.out.chg hcw (fun k hk hn => hn hk) with h0 | ⟨g, o, rfl, hcs⟩
        · subst h0; simp at hlt
        obtain ⟨c0, c1, c2, c3, c4, c5⟩ := hcs i y hy
        clear hcs hy
        have hi1 : (i : Int) + 1 ≤ 9223372036854775807 := by omega
        by_cases h5 : y.kd ≤ 5
        · have h5' : ¬ (5 : Int) < y.kd := by omega
          go_wp2_with fail
          refine (stepV_at (fun k => k < w.heap.size) x ws y.kd y.k y.a y.b y.c y.wv _ hA h5).mono ?_
          rintro e w2 ⟨rfl, hA2, hc2⟩
          have hcw2 := hcw.trans hc2
          go_wp2
          go_roundw
          case rel => exact ⟨i + 1, by omega, by go_num, hA2, hcw2⟩
          case measure => simp [intOf]; omega
        · have h5' : (5 : Int) < y.kd := by omega
          go_wp2
          go_roundw
          case rel => exact ⟨i + 1, by omega, by go_num, hA, hcw⟩
          case measure => simp [intOf]; omega
      · go_wp2_with fail
        refine (whole_at (fun k => k < w.heap.size) x ws _ hA).mono ?_
        rintro e w2 ⟨rfl, hc2⟩
        have hcw2 := hcw.trans hc2
        go_wp2
        go_ret
        exact ⟨rfl, hcw2.below (Nat.le_refl _) (fun k hk hn => hn hk)⟩

theorem votes_at (p sp : Option Addr) (c sc : Nat) (ws : List Int) (ops : List OpD) (w : World) (hx : IntsAt w p ws) (hp : p = none ∨ ∃ g o, p = some ⟨g, o, none⟩) (hn : p = none → c = 0 ∧ ws = []) (hb : (ws.length + 3) * 8 ≤ 140737488355328) (hops : OpsAt w sp ops) (hol : ops.length ≤ maxLen) :
    Calls Tryz.prog 3 #[.slice p ws.length c, .slice sp ops.length sc] w fun e w' => e = .returned (.bool true) ∧ Below w.heap.size w w' := by
  go_enter Tryz.func3, Tryz.ntmps3
  go_wp2_with fail
  refine (play_at p sp c sc ws ops _ hx hp hn hb hops hol).mono ?_
  rintro e w1 ⟨rfl, hB1⟩
  go_wp2
  go_ret
  exact ⟨rfl, hB1⟩
end Go.Proofs.YtgebcnnenhgkcaaGreat
