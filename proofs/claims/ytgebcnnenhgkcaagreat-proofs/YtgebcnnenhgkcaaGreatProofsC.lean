/- A script over both Courts, with Proof, and all that can be asked of them. -/
import Derived.Test.YtgebcnnenhgkcaaGreatProofsB
namespace Go.Proofs.YtgebcnnenhgkcaaGreat
open Go.RowKit

set_option maxRecDepth 100000 in
set_option maxHeartbeats 4000000 in
theorem playP_at (p sp : Option Addr) (c sc : Nat) (ws : List Int) (ops : List OpD) (w : World) (hx : IntsAt w p ws) (hp : p = none ∨ ∃ g o, p = some ⟨g, o, none⟩) (hn : p = none → c = 0 ∧ ws = []) (hb : (ws.length + 3) * 8 ≤ 140737488355328) (hops : OpsAt w sp ops) (hol : ops.length ≤ maxLen) :
    Calls Tryz.prog 8 #[.slice p ws.length c, .slice sp ops.length sc, .int .i64 6] w fun e w' => e = .returned (.bool true) ∧ Below w.heap.size w w' := by
  have hol' : ops.length ≤ 9223372036854775807 := by unfold maxLen at hol; omega
  cases hok : okW ws
  · go_enter Tryz.func8, Tryz.ntmps8
    go_wp2_with fail
    refine (begun_no p c ws _ hx hp hn hb hok).mono ?_
    rintro e w1 ⟨rfl, hB1⟩
    go_wp2
    go_ret
    exact ⟨rfl, hB1⟩
  · go_enter Tryz.func8, Tryz.ntmps8
    go_wp2_with fail
    refine (begun_ok p c ws _ hx hp hn hb hok).mono ?_
    rintro e w1 ⟨x, rfl, hBo, hB1⟩
    have hA1 : Alike2 w1 (fun k => k < w.heap.size) x ws := ⟨_, _, hBo⟩
    have hcw1 : Chg (fun k => ¬ (k < w.heap.size)) w w1 := Chg.of_below _ hB1
    have HO : Hid (OpsAt w sp ops) := hops
    clear hops hB1 hBo
    go_wp2
    go_loopw [9] (fun ii wr => ∃ i : Nat, i ≤ ops.length ∧ ii = .int .i64 i ∧ Alike2 wr (fun k => k < w.heap.size) x ws ∧ Chg (fun k => ¬ (k < w.heap.size)) w wr) (fun ii _ => ops.length - (intOf ii).toNat)
    case atStart => exact ⟨0, by omega, rfl, hA1, hcw1⟩
    case round =>
      clear hA1 hcw1
      obtain ⟨i, hi, rfl, hA, hcw⟩ := hrel
      by_cases hlt : i < ops.length
      · have hlt' : (i : Int) < (ops.length : Int) := by omega
        obtain ⟨y, hy⟩ : ∃ y, ops[i]? = some y := ⟨_, List.getElem?_eq_getElem hlt⟩
        rcases HO.out.chg hcw (fun k hk hn => hn hk) with h0 | ⟨g, o, rfl, hcs⟩
        · subst h0; simp at hlt
        obtain ⟨c0, c1, c2, c3, c4, c5⟩ := hcs i y hy
        clear hcs hy
        have hi1 : (i : Int) + 1 ≤ 9223372036854775807 := by omega
        by_cases h5 : y.kd ≤ 6
        · have h5' : ¬ (6 : Int) < y.kd := by omega
          go_wp2_with fail
          refine (stepP_at (fun k => k < w.heap.size) x ws y.kd y.k y.a y.b y.c y.wv _ hA h5).mono ?_
          rintro e w2 ⟨rfl, hA2, hc2⟩
          have hcw2 := hcw.trans hc2
          go_wp2
          go_roundw
          case rel => exact ⟨i + 1, by omega, by go_num, hA2, hcw2⟩
          case measure => simp [intOf]; omega
        · have h5' : (6 : Int) < y.kd := by omega
          go_wp2
          go_roundw
          case rel => exact ⟨i + 1, by omega, by go_num, hA, hcw⟩
          case measure => simp [intOf]; omega
      · go_wp2_with fail
        refine (wholeP_at (fun k => k < w.heap.size) x ws _ hA).mono ?_
        rintro e w2 ⟨rfl, hc2⟩
        have hcw2 := hcw.trans hc2
        go_wp2
        go_ret
        exact ⟨rfl, hcw2.below (Nat.le_refl _) (fun k hk hn => hn hk)⟩

theorem proofs_at (p sp : Option Addr) (c sc : Nat) (ws : List Int) (ops : List OpD) (w : World) (hx : IntsAt w p ws) (hp : p = none ∨ ∃ g o, p = some ⟨g, o, none⟩) (hn : p = none → c = 0 ∧ ws = []) (hb : (ws.length + 3) * 8 ≤ 140737488355328) (hops : OpsAt w sp ops) (hol : ops.length ≤ maxLen) :
    Calls Tryz.prog 5 #[.slice p ws.length c, .slice sp ops.length sc] w fun e w' => e = .returned (.bool true) ∧ Below w.heap.size w w' := by
  go_enter Tryz.func5, Tryz.ntmps5
  go_wp2_with fail
  refine (playP_at p sp c sc ws ops _ hx hp hn hb hops hol).mono ?_
  rintro e w1 ⟨rfl, hB1⟩
  go_wp2
  go_ret
  exact ⟨rfl, hB1⟩
end Go.Proofs.YtgebcnnenhgkcaaGreat
