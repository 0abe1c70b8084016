/- It is proved that the law Judges returns true: whatever weights, parents and links are handed in, Judge answers as the document says, and leaves what it is handed as it was. No condition but the form's own reach. -/
import Derived.Test.YtgebcnnenhgkcaaLawL
import Derived.Test.YtgebcnnenhgkcaaRows
import Derived.ProofKit
import Derived.SizedLaws
import Derived.OpenShut
import Derived.Carry
import Derived.Deep.Slices
namespace Go.Proofs.Ytgebcnnenhgkcaa.judges
open Go.ChangeShapes Go.WideShapes Go.ChangeAt Go.RowKit Go.Deep
set_option linter.unusedVariables false

theorem own : ownKnob Try.prog.godebug = none := by kernel_rfl
theorem laidOut : laidOutB Try.prog = true := by kernel_rfl
theorem cells_int : Try.prog.cellsOf 3 = 1 := by kernel_rfl
theorem bytes_int : Try.prog.bytesOf 3 = 8 := by kernel_rfl
theorem cells_ints : Try.prog.cellsOf 22 = 1 := by kernel_rfl
theorem cells_link : Try.prog.cellsOf 25 = 3 := by kernel_rfl
theorem bytes_link : Try.prog.bytesOf 25 = 40 := by kernel_rfl

theorem slice_spot {P : Program} {w : World} {b0 : Nat} {t e : TypeId} {a : Addr} {len cap : Nat} (ht : P.underlying t = some (.slice e)) (h : Value.okWide P w .any b0 t (.slice (some a) len cap)) : ∃ g o, a = ⟨g, o, none⟩ := by
  simp only [Value.okWide, ht, Cell.okWide, Cell.ok, World.has] at h
  obtain ⟨g, o, s⟩ := a
  have hs : s = none := h.2.2.2.1
  subst hs
  exact ⟨g, o, rfl⟩
theorem spot_of_cell {w : World} {a : Addr} {v : Value} (h : w.cell? a = some v) : a = ⟨a.block, a.off, none⟩ := by
  obtain ⟨g, o, s⟩ := a
  cases s with
  | none => rfl
  | some k =>
    exfalso
    unfold World.cell? at h
    split at h <;> simp at h
theorem weightsAll_mem {H : Type} {P : Program} {e : TypeId} {ds : List (DataW H)} {d : DataW H} (hd : d ∈ ds) {n : Nat} (hn : n ∈ d.weights P e) : n ∈ DataW.weightsAll P e ds := by
  induction ds with
  | nil => cases hd
  | cons x r ih =>
    simp only [DataW.weightsAll, List.mem_append]
    rcases List.mem_cons.1 hd with rfl | h
    · exact .inl hn
    · exact .inr (ih h)

set_option maxRecDepth 100000 in
/-- A list of numbers that was read. -/
theorem ints_read {H : Type} {enc : TypeId × Value → H} {W : World} {n : Nat} {v : Value} {u : DataW H × List MemPlace} (h : DataW.trod enc Try.prog W 0 (fun _ => true) true n 22 [v] = some u) (hsz : ∀ m ∈ u.1.weights Try.prog 22, m ≤ reachBytes) :
    ∃ (p : Option Addr) (c : Nat) (V : List Int), v = .slice p V.length c ∧ IntsAt W p V ∧ V.length ≤ maxLen ∧ (p = none → c = 0 ∧ V = []) ∧ (V.length + 3) * 8 ≤ 140737488355328 := by
  rcases open_ints Try.underlying22 Try.underlying3 cells_int h with ⟨hcs, _⟩ | ⟨a, len, cap, zs, hcs, _, hl, hm, hz, hx, hcell, hwf⟩
  · simp at hcs
    exact ⟨none, 0, [], hcs, .inl rfl, Nat.zero_le _, fun _ => ⟨rfl, rfl⟩, by simp⟩
  · simp at hcs
    have hzc : zs.length = cap := by simpa using hz
    have htl : (zs.take len).length = len := by simp; omega
    have hd : u.1 = .slice (lits .i64 (zs.take len)) (lits .i64 (zs.drop len)) := by simpa using congrArg Prod.fst hx
    rw [hd] at hsz
    have hb := hsz (((lits (H := H) .i64 (zs.take len)).length + (lits (H := H) .i64 (zs.drop len)).length) * Try.prog.bytesOf 3) (by simp [DataW.weights, Try.underlying22])
    rw [bytes_int] at hb
    simp only [lits, List.length_map, List.length_take, List.length_drop, reachBytes] at hb
    refine ⟨some a, cap, zs.take len, by rw [hcs, htl], ?_, by omega, fun h => (by cases h), by omega⟩
    by_cases h0 : len = 0
    · exact .inl (by rw [h0]; rfl)
    · have hc0 := hcell 0 (by omega)
      have ha : a.add 0 = a := by simp [Addr.add]
      rw [ha] at hc0
      have hs := spot_of_cell hc0
      refine .inr ⟨a.block, a.off, by rw [← hs], fun j hj => ?_⟩
      have h1 := hcell j (by omega)
      rw [hs, add_none] at h1
      rw [h1, List.getElem?_take_of_lt (by omega)]
      simp [List.getD]

set_option maxRecDepth 100000 in
/-- A link's three cells. -/
theorem link_open {H : Type} {enc : TypeId × Value → H} {w : World} {base : Nat} {spare : Nat → Bool} {held : Bool} {fuel : Nat} {cs : List Value} {x : DataW H × List MemPlace} (h : DataW.trod enc Try.prog w base spare held fuel 25 cs = some x) :
    ∃ (s t : Int) (v : Value) (n : Nat) (y z : DataW H) (u : DataW H × List MemPlace), cs = [I64 s, I64 t, v] ∧ DataW.trod enc Try.prog w base spare held n 22 [v] = some u ∧ x.1 = .agg [y, z, u.1] := by
  obtain ⟨xs, n, _, hx, hl, hxl, hf⟩ := DataW.trod_struct Try.underlying25 h
  rw [cells_link] at hl
  have hxl' : xs.length = 3 := hxl
  match cs, hl with
  | [c0, c1, c2], _ =>
    match xs, hxl' with
    | [x0, x1, x2], _ =>
      have g0 : DataW.trod enc Try.prog w base spare held n 3 (([c0, c1, c2].drop 0).take (Try.prog.cellsOf 3)) = some x0 := hf 0 _ rfl
      have g1 : DataW.trod enc Try.prog w base spare held n 3 (([c0, c1, c2].drop 1).take (Try.prog.cellsOf 3)) = some x1 := hf 1 _ rfl
      have g2 : DataW.trod enc Try.prog w base spare held n 22 (([c0, c1, c2].drop 2).take (Try.prog.cellsOf 22)) = some x2 := hf 2 _ rfl
      rw [cells_int] at g0 g1
      rw [cells_ints] at g2
      obtain ⟨k0, e0, _, _⟩ := DataW.trod_int Try.underlying3 g0
      obtain ⟨k1, e1, _, _⟩ := DataW.trod_int Try.underlying3 g1
      simp at e0 e1
      subst e0 e1
      exact ⟨k0, k1, c2, n, x0.1, x1.1, x2, rfl, g2, by rw [hx]; rfl⟩

set_option maxRecDepth 100000 in
theorem links_read {H : Type} {enc : TypeId × Value → H} {W : World} {b0 : Nat} {a : Option Addr} {len cap : Nat} {d : DataW H} {p : List MemPlace} (hv : Value.okWide Try.prog W .any b0 23 (.slice a len cap))
    (h : DataW.Trod enc Try.prog W 0 (fun _ => true) true 23 (.slice a len cap) d p) (hsz : ∀ m ∈ d.weights Try.prog 23, m ≤ reachBytes) : ∃ X : List LkV, X.length = len ∧ LkAt W a X ∧ LkFit X := by
  obtain ⟨fuel, hf⟩ := h
  rcases open_slice Try.underlying23 hf with ⟨hcs, _⟩ | ⟨a', len', cap', m, n, D, Pl, hcs, _, hl, hm, hmm, hx, hel⟩
  · simp [Value.cells] at hcs
    obtain ⟨rfl, rfl, rfl⟩ := hcs
    exact ⟨[], rfl, ⟨.inl rfl, fun x h => (by cases h)⟩, ⟨fun x h => (by cases h), by simp⟩⟩
  · simp [Value.cells] at hcs
    obtain ⟨rfl, rfl, rfl⟩ := hcs
    obtain ⟨g, o, rfl⟩ := slice_spot Try.underlying23 hv
    have hmc : m = cap := by simpa using hmm
    subst hmc
    have hd : d = .slice ((List.range len).map D) ((List.range (m - len)).map fun j => D (len + j)) := congrArg Prod.fst hx
    subst hd
    have hb := hsz ((((List.range len).map D).length + ((List.range (m - len)).map fun j => D (len + j)).length) * Try.prog.bytesOf 25) (by simp [DataW.weights, Try.underlying23])
    rw [bytes_link] at hb
    simp only [List.length_map, List.length_range, reachBytes] at hb
    have hget : ∀ i, i < len → ∃ y : LkV, (W.cell? ⟨g, o + i * 3, none⟩ = some (I64 y.1.s) ∧ W.cell? ⟨g, o + i * 3 + 1, none⟩ = some (I64 y.1.t) ∧ W.cell? ⟨g, o + i * 3 + 2, none⟩ = some y.2) ∧ ∃ p c, y.2 = .slice p y.1.vs.length c ∧ IntsAt W p y.1.vs ∧ y.1.vs.length ≤ maxLen ∧ (p = none → c = 0 ∧ y.1.vs = []) ∧ (y.1.vs.length + 3) * 8 ≤ 140737488355328 := by
      intro i hi
      obtain ⟨cs', hc, ht⟩ := hel i (by omega)
      obtain ⟨s, t, v, n', y, z, u, rfl, htv, hag⟩ := link_open ht
      have hwd : ∀ k ∈ u.1.weights Try.prog 22, k ≤ reachBytes := fun k hk => by
        refine hsz k ?_
        have h1 : k ∈ (D i).weights Try.prog 25 := by
          have h2 : D i = .agg [y, z, u.1] := hag
          rw [h2]
          simp only [DataW.weights, Try.underlying25]
          exact DataW.weights_mem_each (j := 2) (t := 22) (d := u.1) rfl rfl k hk
        have h3 := weightsAll_mem (e := 25) (ds := (List.range len).map D) (d := D i) (List.mem_map.2 ⟨i, List.mem_range.2 hi, rfl⟩) h1
        simp only [DataW.weights, Try.underlying23, List.mem_cons, List.mem_append]
        exact .inr (.inl h3)
      obtain ⟨p', c', V, rfl, hiv, hvm, hpn, hvb⟩ := ints_read htv hwd
      rw [cells_link] at hc
      obtain ⟨_, _, hcell⟩ := World.cells?_some hc
      refine ⟨(⟨s, t, V⟩, .slice p' V.length c'), ⟨?_, ?_, ?_⟩, p', c', rfl, hiv, hvm, hpn, hvb⟩
      · have := hcell 0 (by omega); rw [add_none, add_none] at this; simpa using this
      · have := hcell 1 (by omega); rw [add_none, add_none] at this; simpa using this
      · have := hcell 2 (by omega); rw [add_none, add_none] at this; simpa using this
    have : Inhabited LkV := ⟨(⟨0, 0, []⟩, .bool false)⟩
    obtain ⟨f, hfn⟩ := choose_lt hget
    refine ⟨(List.range len).map f, by simp, ⟨.inr ⟨g, o, rfl, fun j x hj => ?_⟩, fun x hx => ?_⟩, ⟨fun x hx => ?_, by simp; omega⟩⟩
    · obtain ⟨hj1, hj2⟩ := List.getElem?_eq_some_iff.1 hj
      simp at hj1 hj2
      subst hj2
      exact (hfn j hj1).1
    · obtain ⟨i, hi, rfl⟩ := List.mem_map.1 hx
      obtain ⟨_, p', c', e1, e2, e3, _, _⟩ := hfn i (List.mem_range.1 hi)
      exact ⟨p', c', e1, e2, e3⟩
    · obtain ⟨i, hi, rfl⟩ := List.mem_map.1 hx
      obtain ⟨_, p', c', e1, _, _, e4, e5⟩ := hfn i (List.mem_range.1 hi)
      exact ⟨p', c', e1, e4, e5⟩

set_option maxRecDepth 100000 in
theorem lifted (os : Os) (started : os.Started) (H : Type) (enc : TypeId × Value → H) :
    ReturnsInHanded {} Try.checked os 3 .any (Rows.judgesSpec.pre6 enc Try.prog Try.f3 Rows.judgesRow.domain false) (Rows.judgesSpec.post enc Try.prog Try.f3 false true false false) := by
  refine returnsInHanded_of_change_sized (C := Try.checked) own started (by kernel_rfl) Try.func3
    (ChangeSpec.witness6 (enc := enc) (C := Try.checked) false ⟨#[], #[.slice none 0 0, .slice none 0 0, .slice none 0 0, .slice none 0 0], []⟩ 8 (by kernel_rfl) (by kernel_rfl) (by kernel_rfl) (by kernel_rfl)) ?_
  intro W base args ds gs before hval0 hW _ hsz0 _
  have hsz : (DataW.weightsEach Try.prog (Try.f3.params.toList ++ Rows.judgesSpec.plain.varTypes Try.prog) (ds ++ gs)).all (· ≤ reachBytes) = true := hsz0
  clear hsz0
  have hval : ∀ (j : Nat) t v, Try.f3.params[j]? = some t → args[j]? = some v → Value.okWide Try.prog W .any base t v := hval0
  have hW' := hW
  obtain ⟨p, q, hA0, hV, rfl, _, _⟩ := hW
  have hA : DataW.TrodAll enc Try.prog W 0 (fun _ => true) true Try.f3.params.toList args.toList ds p := hA0
  rw [Try.params3] at hA hval hsz
  obtain ⟨v0, v1, v2, v3, d0, d1, d2, d3, p0, p1, p2, p3, rfl, rfl, rfl, h0, h1, h2, h3⟩ := trodAll_four hA
  obtain ⟨rfl, rfl⟩ := trodVars_none hV
  have hszj : ∀ (j : Nat) (t : TypeId) (d : DataW H), ([22, 22, 23, 23] : List TypeId)[j]? = some t → [d0, d1, d2, d3][j]? = some d → ∀ m ∈ d.weights Try.prog t, m ≤ reachBytes := fun j t d ht hd m hm => by
    have hjl : j < 4 := by have := (List.getElem?_eq_some_iff.1 ht).1; simpa using this
    have := List.all_eq_true.1 hsz m (DataW.weights_mem_each (j := j) (t := t) (d := d) (by
      show (([22, 22, 23, 23] : List TypeId) ++ _)[j]? = _
      rw [List.getElem?_append_left (by simpa using hjl)]; exact ht) (by rw [List.getElem?_append_left (by simpa using hjl)]; exact hd) m hm)
    simpa using this
  obtain ⟨a3, l3, c3, rfl⟩ := okWide_slice Try.underlying23 (hval 3 23 v3 rfl rfl)
  obtain ⟨a2, l2, c2, rfl⟩ := okWide_slice Try.underlying23 (hval 2 23 v2 rfl rfl)
  obtain ⟨X, hXl, hX, hXf⟩ := links_read (hval 2 23 _ rfl rfl) h2 (hszj 2 _ _ rfl rfl)
  obtain ⟨Y, hYl, hY, hYf⟩ := links_read (hval 3 23 _ rfl rfl) h3 (hszj 3 _ _ rfl rfl)
  obtain ⟨a0, l0, c0, rfl⟩ := okWide_slice Try.underlying22 (hval 0 22 v0 rfl rfl)
  obtain ⟨a1, l1, c1, rfl⟩ := okWide_slice Try.underlying22 (hval 1 22 v1 rfl rfl)
  have hints : ∀ (a : Option Addr) (l c : Nat) (d : DataW H) (p : List MemPlace), DataW.Trod enc Try.prog W 0 (fun _ => true) true 22 (.slice a l c) d p → (∀ m ∈ d.weights Try.prog 22, m ≤ reachBytes) → ∃ V : List Int, V.length = l ∧ IntsAt W a V ∧ V.length ≤ maxLen ∧ (a = none → c = 0 ∧ V = []) ∧ (V.length + 3) * 8 ≤ 140737488355328 := fun a l c d p ht hs => by
    obtain ⟨fuel, hf⟩ := ht
    obtain ⟨p', c', V, he, e1, e2, e3, e4⟩ := ints_read (v := .slice a l c) hf hs
    simp only [Value.slice.injEq] at he
    obtain ⟨rfl, rfl, rfl⟩ := he
    exact ⟨V, rfl, e1, e2, e3, e4⟩
  obtain ⟨ws, hwl, hws, hwm, hwn, hwb⟩ := hints _ _ _ _ _ h0 (hszj 0 _ _ rfl rfl)
  obtain ⟨ps, hpl, hps, hpm, hpn, hpb⟩ := hints _ _ _ _ _ h1 (hszj 1 _ _ rfl rfl)
  clear hA0 hval0 hints hszj hsz hval hA
  simp only [List.append_nil] at hW'
  have hlt : ∀ x ∈ p0 ++ p1 ++ p2 ++ p3, x.block < W.heap.size := fun x hx => hW'.lt x (by simpa using hx)
  subst hwl hpl hXl hYl
  refine (judges_at a0 a1 a2 a3 c0 c1 c2 c3 ws ps X Y W hws hwn hwb hps hpn hpb hX hXf hY hYf).mono fun e W' ⟨he, hB⟩ => ?_
  subst he
  have r0 : DataW.Trod enc Try.prog W' 0 (fun b => decide (b < W.heap.size)) true 22 (.slice a0 ws.length c0) d0 p0 := Below.trod laidOut (by kernel_rfl) (of_decide_eq_true (by kernel_rfl)) h0 hB (fun x hx => hlt x (by simp [hx]))
  have r1 : DataW.Trod enc Try.prog W' 0 (fun b => decide (b < W.heap.size)) true 22 (.slice a1 ps.length c1) d1 p1 := Below.trod laidOut (by kernel_rfl) (of_decide_eq_true (by kernel_rfl)) h1 hB (fun x hx => hlt x (by simp [hx]))
  have r2 : DataW.Trod enc Try.prog W' 0 (fun b => decide (b < W.heap.size)) true 23 (.slice a2 X.length c2) d2 p2 := Below.trod laidOut (by kernel_rfl) (of_decide_eq_true (by kernel_rfl)) h2 hB (fun x hx => hlt x (by simp [hx]))
  have r3 : DataW.Trod enc Try.prog W' 0 (fun b => decide (b < W.heap.size)) true 23 (.slice a3 Y.length c3) d3 p3 := Below.trod laidOut (by kernel_rfl) (of_decide_eq_true (by kernel_rfl)) h3 hB (fun x hx => hlt x (by simp [hx]))
  exact ⟨_, rfl, _, _, _, [], _, [], hW', (trodAll_cons_mk (shut_bool Try.underlying4 _) trodAll_mk0), trodAll_mk4 r0 r1 r2 r3, rfl, hB.frame _, fun h => by cases h⟩

theorem over : Rows.judgesRow.holds Try.pinned (OpenSpec.ofChange Rows.judgesSpec) :=
  OpenClaim.holds_of_wide 3 Try.f3 rfl rfl rfl rfl rfl rfl rfl ⟨rfl, rfl, rfl, rfl, rfl⟩ rfl rfl rfl rfl rfl (by kernel_rfl) Try.func3 (by kernel_rfl)
    (of_decide_eq_true (by kernel_rfl)) (by unfold Func.isWrapper; first | (rw [if_pos (by decide +kernel)]; kernel_rfl) | (rw [if_neg (by decide +kernel)]; exact ⟨rfl, rfl⟩))
    (fun os started H enc _ => lifted os started H enc)
end Go.Proofs.Ytgebcnnenhgkcaa.judges

namespace Go.Proofs.Ytgebcnnenhgkcaa
theorem judges_proved : Rows.JudgesSaid := judges.over
#print axioms judges_proved
end Go.Proofs.Ytgebcnnenhgkcaa
