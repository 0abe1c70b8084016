/- It is proved that the law Proofs returns true: whatever weights and steps are handed in, New, Block, Vote, Just, Final, Guilty and Proof answer as the document says, in every order, and at last once more of every block; each proof is right, by all who voted, with the fewest links. No condition but the form's own reach. -/
import Derived.Test.YtgebcnnenhgkcaaGreatProofsB
import Derived.Test.YtgebcnnenhgkcaaGreatRows
import Derived.ProofKit
import Derived.SizedLaws
import Derived.OpenShut
import Derived.Deep.Slices
namespace Go.Proofs.YtgebcnnenhgkcaaGreat
open Go.RowKit

set_option maxRecDepth 100000 in
set_option maxHeartbeats 4000000 in
theorem playP_at (p sp : Option Addr) (c sc : Nat) (ws : List Int) (ops : List OpD) (w : World) (hx : IntsAt w p ws) (hp : p = none ∨ ∃ g o, p = some ⟨g, o, none⟩) (hn : p = none → c = 0 ∧ ws = []) (hb : (ws.length + 3) * 8 ≤ 140737488355328) (hops : OpsAt w sp ops) (hol : ops.length ≤ maxLen) :
    Calls Tryz.prog 8 #[.slice p ws.length c, .slice sp ops.length sc, .int .i64 6] w fun e w' => e = .returned (.bool true) ∧ Below w.heap.size w w' := by
  have hol' : ops.length ≤ 9223372036854775807 := by unfold maxLen at hol; omega
  cases hok : okW ws
  · go_enter Tryz.func8, Tryz.ntmps8
    go_wp2_with fail
    refine (begun_no p c ws _ hx hp hn hb hok).mono ?_
    rintro e w1 ⟨rfl, hB1⟩
    go_wp2
    go_ret
    exact ⟨rfl, hB1⟩
  · go_enter Tryz.func8, Tryz.ntmps8
    go_wp2_with fail
    refine (begun_ok p c ws _ hx hp hn hb hok).mono ?_
    rintro e w1 ⟨x, rfl, hBo, hB1⟩
    have hA1 : Alike2 w1 (fun k => k < w.heap.size) x ws := ⟨_, _, hBo⟩
    have hcw1 : Chg (fun k => ¬ (k < w.heap.size)) w w1 := Chg.of_below _ hB1
    have HO : Hid (OpsAt w sp ops) := hops
    clear hops hB1 hBo
    go_wp2
    go_loopw [9] (fun ii wr => ∃ i : Nat, i ≤ ops.length ∧ ii = .int .i64 i ∧ Alike2 wr (fun k => k < w.heap.size) x ws ∧ Chg (fun k => ¬ (k < w.heap.size)) w wr) (fun ii _ => ops.length - (intOf ii).toNat)
    case atStart => exact ⟨0, by omega, rfl, hA1, hcw1⟩
    case round =>
      clear hA1 hcw1
      obtain ⟨i, hi, rfl, hA, hcw⟩ := hrel
      by_cases hlt : i < ops.length
      · have hlt' : (i : Int) < (ops.length : Int) := by omega
        obtain ⟨y, hy⟩ : ∃ y, ops[i]? = some y := ⟨_, List.getElem?_eq_getElem hlt⟩
        rcases HO.out.chg hcw (fun k hk hn => hn hk) with h0 | ⟨g, o, rfl, hcs⟩
        · subst h0; simp at hlt
        obtain ⟨c0, c1, c2, c3, c4, c5⟩ := hcs i y hy
        clear hcs hy
        have hi1 : (i : Int) + 1 ≤ 9223372036854775807 := by omega
        by_cases h5 : y.kd ≤ 6
        · have h5' : ¬ (6 : Int) < y.kd := by omega
          go_wp2_with fail
          refine (stepP_at (fun k => k < w.heap.size) x ws y.kd y.k y.a y.b y.c y.wv _ hA h5).mono ?_
          rintro e w2 ⟨rfl, hA2, hc2⟩
          have hcw2 := hcw.trans hc2
          go_wp2
          go_roundw
          case rel => exact ⟨i + 1, by omega, by go_num, hA2, hcw2⟩
          case measure => simp [intOf]; omega
        · have h5' : (6 : Int) < y.kd := by omega
          go_wp2
          go_roundw
          case rel => exact ⟨i + 1, by omega, by go_num, hA, hcw⟩
          case measure => simp [intOf]; omega
      · go_wp2_with fail
        refine (wholeP_at (fun k => k < w.heap.size) x ws _ hA).mono ?_
        rintro e w2 ⟨rfl, hc2⟩
        have hcw2 := hcw.trans hc2
        go_wp2
        go_ret
        exact ⟨rfl, hcw2.below (Nat.le_refl _) (fun k hk hn => hn hk)⟩

theorem proofs_at (p sp : Option Addr) (c sc : Nat) (ws : List Int) (ops : List OpD) (w : World) (hx : IntsAt w p ws) (hp : p = none ∨ ∃ g o, p = some ⟨g, o, none⟩) (hn : p = none → c = 0 ∧ ws = []) (hb : (ws.length + 3) * 8 ≤ 140737488355328) (hops : OpsAt w sp ops) (hol : ops.length ≤ maxLen) :
    Calls Tryz.prog 5 #[.slice p ws.length c, .slice sp ops.length sc] w fun e w' => e = .returned (.bool true) ∧ Below w.heap.size w w' := by
  go_enter Tryz.func5, Tryz.ntmps5
  go_wp2_with fail
  refine (playP_at p sp c sc ws ops _ hx hp hn hb hops hol).mono ?_
  rintro e w1 ⟨rfl, hB1⟩
  go_wp2
  go_ret
  exact ⟨rfl, hB1⟩
end Go.Proofs.YtgebcnnenhgkcaaGreat

namespace Go.Proofs.YtgebcnnenhgkcaaGreat.proofs
open Go.ChangeShapes Go.WideShapes Go.ChangeAt Go.RowKit Go.Deep
set_option linter.unusedVariables false

theorem own : ownKnob Tryz.prog.godebug = none := by kernel_rfl
theorem laidOut : laidOutB Tryz.prog = true := by kernel_rfl
theorem cells_int : Tryz.prog.cellsOf 3 = 1 := by kernel_rfl
theorem bytes_int : Tryz.prog.bytesOf 3 = 8 := by kernel_rfl
theorem cells_ints : Tryz.prog.cellsOf 22 = 1 := by kernel_rfl
theorem cells_op : Tryz.prog.cellsOf 34 = 6 := by kernel_rfl

theorem slice_spot {P : Program} {w : World} {b0 : Nat} {t e : TypeId} {a : Addr} {len cap : Nat} (ht : P.underlying t = some (.slice e)) (h : Value.okWide P w .any b0 t (.slice (some a) len cap)) : ∃ g o, a = ⟨g, o, none⟩ := by
  simp only [Value.okWide, ht, Cell.okWide, Cell.ok, World.has] at h
  obtain ⟨g, o, s⟩ := a
  have hs : s = none := h.2.2.2.1
  subst hs
  exact ⟨g, o, rfl⟩

set_option maxRecDepth 100000 in
/-- A step's six cells. -/
theorem op_open {H : Type} {enc : TypeId × Value → H} {w : World} {base : Nat} {spare : Nat → Bool} {held : Bool} {fuel : Nat} {cs : List Value} {x : DataW H × List MemPlace} (h : DataW.trod enc Tryz.prog w base spare held fuel 34 cs = some x) :
    ∃ (k0 k1 k2 k3 k4 : Int) (wv : Value), cs = [I64 k0, I64 k1, I64 k2, I64 k3, I64 k4, wv] := by
  obtain ⟨xs, n, _, _, hl, hxl, hf⟩ := DataW.trod_struct Tryz.underlying34 h
  rw [cells_op] at hl
  have hxl' : xs.length = 6 := hxl
  match cs, hl with
  | [c0, c1, c2, c3, c4, c5], _ =>
    have g0 : DataW.trod enc Tryz.prog w base spare held n 3 (([c0, c1, c2, c3, c4, c5].drop 0).take (Tryz.prog.cellsOf 3)) = xs[0]? := hf 0 _ rfl
    have g1 : DataW.trod enc Tryz.prog w base spare held n 3 (([c0, c1, c2, c3, c4, c5].drop 1).take (Tryz.prog.cellsOf 3)) = xs[1]? := hf 1 _ rfl
    have g2 : DataW.trod enc Tryz.prog w base spare held n 3 (([c0, c1, c2, c3, c4, c5].drop 2).take (Tryz.prog.cellsOf 3)) = xs[2]? := hf 2 _ rfl
    have g3 : DataW.trod enc Tryz.prog w base spare held n 3 (([c0, c1, c2, c3, c4, c5].drop 3).take (Tryz.prog.cellsOf 3)) = xs[3]? := hf 3 _ rfl
    have g4 : DataW.trod enc Tryz.prog w base spare held n 3 (([c0, c1, c2, c3, c4, c5].drop 4).take (Tryz.prog.cellsOf 3)) = xs[4]? := hf 4 _ rfl
    rw [List.getElem?_eq_getElem (by omega)] at g0 g1 g2 g3 g4
    rw [cells_int] at g0 g1 g2 g3 g4
    obtain ⟨k0, e0, _, _⟩ := DataW.trod_int Tryz.underlying3 g0
    obtain ⟨k1, e1, _, _⟩ := DataW.trod_int Tryz.underlying3 g1
    obtain ⟨k2, e2, _, _⟩ := DataW.trod_int Tryz.underlying3 g2
    obtain ⟨k3, e3, _, _⟩ := DataW.trod_int Tryz.underlying3 g3
    obtain ⟨k4, e4, _, _⟩ := DataW.trod_int Tryz.underlying3 g4
    simp at e0 e1 e2 e3 e4
    subst e0 e1 e2 e3 e4
    exact ⟨k0, k1, k2, k3, k4, c5, rfl⟩

set_option maxRecDepth 100000 in
theorem ops_read {H : Type} {enc : TypeId × Value → H} {W : World} {b0 : Nat} {a : Option Addr} {len cap : Nat} {d : DataW H} {p : List MemPlace} (hv : Value.okWide Tryz.prog W .any b0 23 (.slice a len cap))
    (h : DataW.Trod enc Tryz.prog W 0 (fun _ => true) true 23 (.slice a len cap) d p) : ∃ ops : List OpD, ops.length = len ∧ len ≤ maxLen ∧ OpsAt W a ops := by
  obtain ⟨fuel, hf⟩ := h
  rcases open_slice Tryz.underlying23 hf with ⟨hcs, _⟩ | ⟨a', len', cap', m, n, D, Pl, hcs, _, hl, hm, hmm, _, hel⟩
  · simp [Value.cells] at hcs
    obtain ⟨rfl, rfl, rfl⟩ := hcs
    exact ⟨[], rfl, Nat.zero_le _, .inl rfl⟩
  · simp [Value.cells] at hcs
    obtain ⟨rfl, rfl, rfl⟩ := hcs
    obtain ⟨g, o, rfl⟩ := slice_spot Tryz.underlying23 hv
    have hmc : m = cap := by simpa using hmm
    have hget : ∀ i, i < len → ∃ y : OpD, W.cell? ⟨g, o + i * 6, none⟩ = some (I64 y.kd) ∧ W.cell? ⟨g, o + i * 6 + 1, none⟩ = some (I64 y.k) ∧ W.cell? ⟨g, o + i * 6 + 2, none⟩ = some (I64 y.a) ∧ W.cell? ⟨g, o + i * 6 + 3, none⟩ = some (I64 y.b) ∧ W.cell? ⟨g, o + i * 6 + 4, none⟩ = some (I64 y.c) ∧ W.cell? ⟨g, o + i * 6 + 5, none⟩ = some y.wv := by
      intro i hi
      obtain ⟨cs', hc, ht⟩ := hel i (by omega)
      obtain ⟨k0, k1, k2, k3, k4, wv, rfl⟩ := op_open ht
      rw [cells_op] at hc
      obtain ⟨_, _, hcell⟩ := World.cells?_some hc
      refine ⟨⟨k0, k1, k2, k3, k4, wv⟩, ?_, ?_, ?_, ?_, ?_, ?_⟩
      · have := hcell 0 (by omega); rw [add_none, add_none] at this; simpa using this
      · have := hcell 1 (by omega); rw [add_none, add_none] at this; simpa using this
      · have := hcell 2 (by omega); rw [add_none, add_none] at this; simpa using this
      · have := hcell 3 (by omega); rw [add_none, add_none] at this; simpa using this
      · have := hcell 4 (by omega); rw [add_none, add_none] at this; simpa using this
      · have := hcell 5 (by omega); rw [add_none, add_none] at this; simpa using this
    have : Inhabited OpD := ⟨⟨0, 0, 0, 0, 0, .bool false⟩⟩
    obtain ⟨f, hfn⟩ := choose_lt hget
    refine ⟨(List.range len).map f, by simp, by omega, .inr ⟨g, o, rfl, fun j x hj => ?_⟩⟩
    obtain ⟨hj1, hj2⟩ := List.getElem?_eq_some_iff.1 hj
    simp at hj1 hj2
    subst hj2
    exact hfn j hj1

set_option maxRecDepth 100000 in
theorem lifted (os : Os) (started : os.Started) (H : Type) (enc : TypeId × Value → H) :
    ReturnsInHanded {} Tryz.checked os 5 .any (Rows.proofsSpec.pre6 enc Tryz.prog Tryz.f5 Rows.proofsRow.domain false) (Rows.proofsSpec.post enc Tryz.prog Tryz.f5 false true false false) := by
  refine returnsInHanded_of_change_sized (C := Tryz.checked) own started (by kernel_rfl) Tryz.func5
    (ChangeSpec.witness6 (enc := enc) (C := Tryz.checked) false ⟨#[], #[.slice none 0 0, .slice none 0 0], []⟩ 8 (by kernel_rfl) (by kernel_rfl) (by kernel_rfl) (by kernel_rfl)) ?_
  intro W base args ds gs before hval0 hW _ hsz0 _
  have hsz : (DataW.weightsEach Tryz.prog (Tryz.f5.params.toList ++ Rows.proofsSpec.plain.varTypes Tryz.prog) (ds ++ gs)).all (· ≤ reachBytes) = true := hsz0
  clear hsz0
  have hval : ∀ (j : Nat) t v, Tryz.f5.params[j]? = some t → args[j]? = some v → Value.okWide Tryz.prog W .any base t v := hval0
  have hW' := hW
  obtain ⟨p, q, hA0, hV, rfl, _, _⟩ := hW
  have hA : DataW.TrodAll enc Tryz.prog W 0 (fun _ => true) true Tryz.f5.params.toList args.toList ds p := hA0
  rw [Tryz.params5] at hA hval hsz
  obtain ⟨v0, v1, d0, d1, p0, p1, rfl, rfl, rfl, h0, h1⟩ := trodAll_two hA
  obtain ⟨rfl, rfl⟩ := trodVars_none hV
  obtain ⟨sp, slen, sc, rfl⟩ := okWide_slice Tryz.underlying23 (hval 1 23 v1 rfl rfl)
  obtain ⟨a0, len, cap, rfl⟩ := okWide_slice Tryz.underlying22 (hval 0 22 v0 rfl rfl)
  obtain ⟨ops, hol, hom, hops⟩ := ops_read (hval 1 23 _ rfl rfl) h1
  have hints : ∃ ws : List Int, ws.length = len ∧ (ws.length + 3) * 8 ≤ 140737488355328 ∧ IntsAt W a0 ws ∧ (a0 = none ∨ ∃ g o, a0 = some ⟨g, o, none⟩) ∧ (a0 = none → cap = 0 ∧ ws = []) := by
    obtain ⟨fuel, hf⟩ := h0
    rcases open_ints Tryz.underlying22 Tryz.underlying3 cells_int hf with ⟨hcs, _⟩ | ⟨a, len', cap', zs, hcs, _, hl, hm, hz, hx, hcell, _⟩
    · simp [Value.cells] at hcs
      obtain ⟨rfl, rfl, rfl⟩ := hcs
      exact ⟨[], rfl, by simp, .inl rfl, .inl rfl, fun _ => ⟨rfl, rfl⟩⟩
    · simp [Value.cells] at hcs
      obtain ⟨rfl, rfl, rfl⟩ := hcs
      obtain ⟨g, o, rfl⟩ := slice_spot Tryz.underlying22 (hval 0 22 _ rfl rfl)
      have hzc : zs.length = cap := by simpa using hz
      have hd0 : d0 = .slice (lits .i64 (zs.take len)) (lits .i64 (zs.drop len)) := by simpa using congrArg Prod.fst hx
      subst hd0
      have hb := sized_slice hsz (j := 0) (t := 22) (e := 3) rfl rfl Tryz.underlying22
      rw [bytes_int] at hb
      simp only [lits, List.length_map, List.length_take, List.length_drop, reachBytes] at hb
      have htl : (zs.take len).length = len := by simp; omega
      refine ⟨zs.take len, htl, by omega, .inr ⟨g, o, rfl, fun j hj => ?_⟩, .inr ⟨g, o, rfl⟩, fun h => by cases h⟩
      have := hcell j (by omega)
      rw [add_none] at this
      rw [this, List.getElem?_take_of_lt (by omega)]
      simp [List.getD]
  obtain ⟨ws, hwl, hwb, hws, hp, hn⟩ := hints
  have h0k := h0
  have h1k := h1
  clear hA0 hval0 h0 h1
  simp only [List.append_nil] at hW'
  have hlt : ∀ x ∈ p0 ++ p1, x.block < W.heap.size := fun x hx => hW'.lt x (by simpa using hx)
  subst hwl hol
  refine (proofs_at a0 sp cap sc ws ops W hws hp hn hwb hops hom).mono fun e W' ⟨he, hB⟩ => ?_
  subst he
  have r0 : DataW.Trod enc Tryz.prog W' 0 (fun b => decide (b < W.heap.size)) true 22 (.slice a0 ws.length cap) d0 p0 := Below.trod laidOut (by kernel_rfl) (of_decide_eq_true (by kernel_rfl)) h0k hB (fun x hx => hlt x (List.mem_append_left _ hx))
  have r1 : DataW.Trod enc Tryz.prog W' 0 (fun b => decide (b < W.heap.size)) true 23 (.slice sp ops.length sc) d1 p1 := Below.trod laidOut (by kernel_rfl) (of_decide_eq_true (by kernel_rfl)) h1k hB (fun x hx => hlt x (List.mem_append_right _ hx))
  exact ⟨_, rfl, _, _, _, [], p0 ++ p1, [], hW', (trodAll_cons_mk (shut_bool Tryz.underlying4 _) trodAll_mk0), trodAll_mk2 r0 r1, rfl, hB.frame _, fun h => by cases h⟩

theorem over : Rows.proofsRow.holds Tryz.pinned (OpenSpec.ofChange Rows.proofsSpec) :=
  OpenClaim.holds_of_wide 5 Tryz.f5 rfl rfl rfl rfl rfl rfl rfl ⟨rfl, rfl, rfl, rfl, rfl⟩ rfl rfl rfl rfl rfl (by kernel_rfl) Tryz.func5 (by kernel_rfl)
    (of_decide_eq_true (by kernel_rfl)) (by unfold Func.isWrapper; first | (rw [if_pos (by decide +kernel)]; kernel_rfl) | (rw [if_neg (by decide +kernel)]; exact ⟨rfl, rfl⟩))
    (fun os started H enc _ => lifted os started H enc)
end Go.Proofs.YtgebcnnenhgkcaaGreat.proofs

namespace Go.Proofs.YtgebcnnenhgkcaaGreat
theorem proofs_proved : Rows.ProofsSaid := proofs.over
#print axioms proofs_proved
end Go.Proofs.YtgebcnnenhgkcaaGreat
