/- It is proved that the law All returns true, where its script is of bulk at most 1048576: whatever steps the script holds, over several Courts in turns, New, Block, Vote, Just, Final, Guilty, Proof and Judge answer as the document says, and every list that came out reads on as its owner wrote it, behind every later step. -/
import Derived.Test.YtgebcnnenhgkcaaGreatRows
import Derived.ProofKit
import Derived.OpenShut
import Derived.Carry
import Derived.JoinedCond
import Derived.Deep.Slices
import Derived.Test.YtgebcnnenhgkcaaGreatB32
namespace Go.Proofs.YtgebcnnenhgkcaaGreat.all
open Go.ChangeShapes Go.WideShapes Go.ChangeAt Go.RowKit Go.Deep
set_option linter.unusedVariables false

theorem own : ownKnob Tryz.prog.godebug = none := by kernel_rfl
theorem laidOut : laidOutB Tryz.prog = true := by kernel_rfl
theorem cells_int : Tryz.prog.cellsOf 3 = 1 := by kernel_rfl
theorem cells_ints : Tryz.prog.cellsOf 22 = 1 := by kernel_rfl
theorem cells_op : Tryz.prog.cellsOf 34 = 6 := by kernel_rfl

theorem slice_spot {P : Program} {w : World} {b0 : Nat} {t e : TypeId} {a : Addr} {len cap : Nat} (ht : P.underlying t = some (.slice e)) (h : Value.okWide P w .any b0 t (.slice (some a) len cap)) : ∃ g o, a = ⟨g, o, none⟩ := by
  simp only [Value.okWide, ht, Cell.okWide, Cell.ok, World.has] at h
  obtain ⟨g, o, s⟩ := a
  have hs : s = none := h.2.2.2.1
  subst hs
  exact ⟨g, o, rfl⟩
theorem spot_of_cell {w : World} {a : Addr} {v : Value} (h : w.cell? a = some v) : a = ⟨a.block, a.off, none⟩ := by
  obtain ⟨g, o, s⟩ := a
  cases s with
  | none => rfl
  | some k =>
    exfalso
    unfold World.cell? at h
    split at h <;> simp at h
/-- Every value counts. -/
theorem bulk_pos {H : Type} (d : DataW H) : 0 < Rows.uptoBulk d := by
  cases d with
  | lit l => cases l <;> simp [Rows.uptoBulk]
  | _ => simp [Rows.uptoBulk]
theorem bulk_in {H : Type} {d : DataW H} : ∀ {l : List (DataW H)}, d ∈ l → Rows.uptoBulk d ≤ Rows.uptoBulkAll l
  | x :: r, h => by
    rw [Rows.uptoBulkAll]
    rcases List.mem_cons.1 h with rfl | h
    · omega
    · have := bulk_in h; omega
theorem bulk_many {H : Type} : ∀ l : List (DataW H), l.length ≤ Rows.uptoBulkAll l
  | [] => Nat.zero_le _
  | x :: r => by
    have h1 := bulk_pos x
    have h2 := bulk_many r
    rw [Rows.uptoBulkAll, List.length_cons]
    omega
theorem bulk_slice {H : Type} (e s : List (DataW H)) : Rows.uptoBulk (.slice e s) = Rows.uptoBulkAll e + Rows.uptoBulkAll s + 1 := by simp only [Rows.uptoBulk]
theorem bulk_agg {H : Type} (p : List (DataW H)) : Rows.uptoBulk (.agg p) = Rows.uptoBulkAll p + 1 := by simp only [Rows.uptoBulk]
theorem in64 {k : Int} (hk : (Lit.int .i64 k).wf = true) : -9223372036854775808 ≤ k ∧ k ≤ 9223372036854775807 := by
  have h2 : (decide (IntKind.i64.min ≤ k) && decide (k ≤ IntKind.i64.max)) = true := hk
  simp only [Bool.and_eq_true, decide_eq_true_eq] at h2
  have h3 : IntKind.i64.min = -9223372036854775808 := by decide
  have h4 : IntKind.i64.max = 9223372036854775807 := by decide
  rw [h3, h4] at h2
  exact h2

set_option maxRecDepth 100000 in
/-- A list of numbers that was read. -/
theorem ints_read {H : Type} {enc : TypeId × Value → H} {W : World} {n : Nat} {v : Value} {u : DataW H × List MemPlace} (h : DataW.trod enc Tryz.prog W 0 (fun _ => true) true n 22 [v] = some u) (hsz : Rows.uptoBulk u.1 ≤ 1048576) :
    ∃ (p : Option Addr) (c : Nat) (V : List Int), v = .slice p V.length c ∧ IntsAt W p V ∧ (p = none → c = 0 ∧ V = []) ∧ (V.length + 3) * 8 ≤ 140737488355328 := by
  rcases open_ints Tryz.underlying22 Tryz.underlying3 cells_int h with ⟨hcs, _⟩ | ⟨a, len, cap, zs, hcs, _, hl, hm, hz, hx, hcell, hwf⟩
  · simp at hcs
    exact ⟨none, 0, [], hcs, .inl rfl, fun _ => ⟨rfl, rfl⟩, by simp⟩
  · simp at hcs
    have hzc : zs.length = cap := by simpa using hz
    have htl : (zs.take len).length = len := by simp; omega
    have hd : u.1 = .slice (lits .i64 (zs.take len)) (lits .i64 (zs.drop len)) := by simpa using congrArg Prod.fst hx
    rw [hd, bulk_slice] at hsz
    have hb := bulk_many (lits (H := H) .i64 (zs.take len))
    simp only [lits, List.length_map] at hb
    rw [htl] at hb
    refine ⟨some a, cap, zs.take len, by rw [hcs, htl], ?_, fun h => (by cases h), ?_⟩
    · by_cases h0 : len = 0
      · exact .inl (by rw [h0]; rfl)
      · have hc0 := hcell 0 (by omega)
        have ha : a.add 0 = a := by simp [Addr.add]
        rw [ha] at hc0
        have hs := spot_of_cell hc0
        refine .inr ⟨a.block, a.off, by rw [← hs], fun j hj => ?_⟩
        have h1 := hcell j (by omega)
        rw [hs, add_none] at h1
        rw [h1, List.getElem?_take_of_lt (by omega)]
        simp [List.getD]
    · rw [htl]
      simp only [lits] at hsz
      omega

set_option maxRecDepth 100000 in
/-- A step's six cells. -/
theorem op_open {H : Type} {enc : TypeId × Value → H} {w : World} {base : Nat} {spare : Nat → Bool} {held : Bool} {fuel : Nat} {cs : List Value} {x : DataW H × List MemPlace} (h : DataW.trod enc Tryz.prog w base spare held fuel 34 cs = some x) :
    ∃ (k0 k1 k2 k3 k4 : Int) (wv : Value) (n : Nat) (ds : List (DataW H)) (u : DataW H × List MemPlace), cs = [I64 k0, I64 k1, I64 k2, I64 k3, I64 k4, wv] ∧ (Lit.int .i64 k1).wf = true ∧ (Lit.int .i64 k2).wf = true ∧ (Lit.int .i64 k3).wf = true ∧ DataW.trod enc Tryz.prog w base spare held n 22 [wv] = some u ∧ x.1 = .agg ds ∧ u.1 ∈ ds := by
  obtain ⟨xs, n, _, hx, hl, hxl, hf⟩ := DataW.trod_struct Tryz.underlying34 h
  rw [cells_op] at hl
  have hxl' : xs.length = 6 := hxl
  match cs, hl with
  | [c0, c1, c2, c3, c4, c5], _ =>
    have g0 : DataW.trod enc Tryz.prog w base spare held n 3 (([c0, c1, c2, c3, c4, c5].drop 0).take (Tryz.prog.cellsOf 3)) = xs[0]? := hf 0 _ rfl
    have g1 : DataW.trod enc Tryz.prog w base spare held n 3 (([c0, c1, c2, c3, c4, c5].drop 1).take (Tryz.prog.cellsOf 3)) = xs[1]? := hf 1 _ rfl
    have g2 : DataW.trod enc Tryz.prog w base spare held n 3 (([c0, c1, c2, c3, c4, c5].drop 2).take (Tryz.prog.cellsOf 3)) = xs[2]? := hf 2 _ rfl
    have g3 : DataW.trod enc Tryz.prog w base spare held n 3 (([c0, c1, c2, c3, c4, c5].drop 3).take (Tryz.prog.cellsOf 3)) = xs[3]? := hf 3 _ rfl
    have g4 : DataW.trod enc Tryz.prog w base spare held n 3 (([c0, c1, c2, c3, c4, c5].drop 4).take (Tryz.prog.cellsOf 3)) = xs[4]? := hf 4 _ rfl
    have g5 : DataW.trod enc Tryz.prog w base spare held n 22 (([c0, c1, c2, c3, c4, c5].drop 5).take (Tryz.prog.cellsOf 22)) = xs[5]? := hf 5 _ rfl
    rw [List.getElem?_eq_getElem (by omega)] at g0 g1 g2 g3 g4 g5
    rw [cells_int] at g0 g1 g2 g3 g4
    rw [cells_ints] at g5
    obtain ⟨k0, e0, _, _⟩ := DataW.trod_int Tryz.underlying3 g0
    obtain ⟨k1, e1, _, f1⟩ := DataW.trod_int Tryz.underlying3 g1
    obtain ⟨k2, e2, _, f2⟩ := DataW.trod_int Tryz.underlying3 g2
    obtain ⟨k3, e3, _, f3⟩ := DataW.trod_int Tryz.underlying3 g3
    obtain ⟨k4, e4, _, _⟩ := DataW.trod_int Tryz.underlying3 g4
    simp at e0 e1 e2 e3 e4
    subst e0 e1 e2 e3 e4
    exact ⟨k0, k1, k2, k3, k4, c5, n, xs.map (·.1), xs[5], rfl, f1, f2, f3, g5, by rw [hx], List.mem_map.2 ⟨xs[5], List.getElem_mem _, rfl⟩⟩

set_option maxRecDepth 100000 in
theorem ops_read {H : Type} {enc : TypeId × Value → H} {W : World} {b0 : Nat} {a : Option Addr} {len cap : Nat} {d : DataW H} {p : List MemPlace} (hv : Value.okWide Tryz.prog W .any b0 23 (.slice a len cap))
    (h : DataW.Trod enc Tryz.prog W 0 (fun _ => true) true 23 (.slice a len cap) d p) (hsz : Rows.uptoBulk d ≤ 1048576) : ∃ ops : List OpD, ops.length = len ∧ ops.length ≤ 1100000 ∧ OpsAt W a ops ∧ ∀ y ∈ ops, OpFit W y := by
  obtain ⟨fuel, hf⟩ := h
  rcases open_slice Tryz.underlying23 hf with ⟨hcs, _⟩ | ⟨a', len', cap', m, n, D, Pl, hcs, _, hl, hm, hmm, hx, hel⟩
  · simp [Value.cells] at hcs
    obtain ⟨rfl, rfl, rfl⟩ := hcs
    exact ⟨[], rfl, Nat.zero_le _, .inl rfl, fun y h => (by cases h)⟩
  · simp [Value.cells] at hcs
    obtain ⟨rfl, rfl, rfl⟩ := hcs
    obtain ⟨g, o, rfl⟩ := slice_spot Tryz.underlying23 hv
    have hmc : m = cap := by simpa using hmm
    subst hmc
    have hd : d = .slice ((List.range len).map D) ((List.range (m - len)).map fun j => D (len + j)) := congrArg Prod.fst hx
    subst hd
    rw [bulk_slice] at hsz
    have hlb := bulk_many ((List.range len).map D)
    simp only [List.length_map, List.length_range] at hlb
    have hget : ∀ i, i < len → ∃ y : OpD, (W.cell? ⟨g, o + i * 6, none⟩ = some (I64 y.kd) ∧ W.cell? ⟨g, o + i * 6 + 1, none⟩ = some (I64 y.k) ∧ W.cell? ⟨g, o + i * 6 + 2, none⟩ = some (I64 y.a) ∧ W.cell? ⟨g, o + i * 6 + 3, none⟩ = some (I64 y.b) ∧ W.cell? ⟨g, o + i * 6 + 4, none⟩ = some (I64 y.c) ∧ W.cell? ⟨g, o + i * 6 + 5, none⟩ = some y.wv) ∧ OpFit W y := by
      intro i hi
      obtain ⟨cs', hc, ht⟩ := hel i (by omega)
      obtain ⟨k0, k1, k2, k3, k4, wv, n', ds, u, rfl, f1, f2, f3, htv, hag, hum⟩ := op_open ht
      have hub : Rows.uptoBulk u.1 ≤ 1048576 := by
        have h1 := bulk_in (d := D i) (l := (List.range len).map D) (List.mem_map.2 ⟨i, List.mem_range.2 hi, rfl⟩)
        have h2 : D i = .agg ds := hag
        rw [h2, bulk_agg] at h1
        have h3 := bulk_in hum
        omega
      obtain ⟨p', c', V, rfl, hiv, hpn, hvb⟩ := ints_read htv hub
      rw [cells_op] at hc
      obtain ⟨_, _, hcell⟩ := World.cells?_some hc
      refine ⟨⟨k0, k1, k2, k3, k4, .slice p' V.length c'⟩, ⟨?_, ?_, ?_, ?_, ?_, ?_⟩, ⟨in64 f1, in64 f2, in64 f3, p', c', V, rfl, hiv, hpn, hvb⟩⟩
      · have := hcell 0 (by omega); rw [add_none, add_none] at this; simpa using this
      · have := hcell 1 (by omega); rw [add_none, add_none] at this; simpa using this
      · have := hcell 2 (by omega); rw [add_none, add_none] at this; simpa using this
      · have := hcell 3 (by omega); rw [add_none, add_none] at this; simpa using this
      · have := hcell 4 (by omega); rw [add_none, add_none] at this; simpa using this
      · have := hcell 5 (by omega); rw [add_none, add_none] at this; simpa using this
    have : Inhabited OpD := ⟨⟨0, 0, 0, 0, 0, .bool false⟩⟩
    obtain ⟨f, hfn⟩ := choose_lt hget
    refine ⟨(List.range len).map f, by simp, by simp; omega, .inr ⟨g, o, rfl, fun j x hj => ?_⟩, fun y hy => ?_⟩
    · obtain ⟨hj1, hj2⟩ := List.getElem?_eq_some_iff.1 hj
      simp at hj1 hj2
      subst hj2
      exact (hfn j hj1).1
    · obtain ⟨i, hi, rfl⟩ := List.mem_map.1 hy
      exact (hfn i (List.mem_range.1 hi)).2

set_option maxRecDepth 100000 in
theorem lifted (os : Os) (started : os.Started) (H : Type) (enc : TypeId × Value → H) (F : Stop.Interp) :
    ReturnsInHanded {} Tryz.checked os 6 .any ((Rows.OpenSpec.upto Rows.allSpec).pre6 enc Tryz.prog Tryz.f6 Rows.allUptoRow.domain false) (((Rows.OpenSpec.upto Rows.allSpec).at F).post enc Tryz.prog Tryz.f6 false true false false) := by
  refine returnsInHanded_of_cond (C := Tryz.checked) (s := Rows.OpenSpec.upto Rows.allSpec) (k := Rows.uptoSmall) rfl own started (by kernel_rfl) Tryz.func6
    (OpenSpec.witness (enc := enc) (C := Tryz.checked) (s := Rows.OpenSpec.upto Rows.allSpec) (k := Rows.uptoSmall) rfl false ⟨#[], #[.slice none 0 0], []⟩ 8 (by kernel_rfl) (by kernel_rfl) (by kernel_rfl)
      (x := ([.nil], [], [])) (by kernel_rfl) rfl (by kernel_rfl)) ?_
  intro W base args ds gs before hval0 hW _ hk _
  have hval : ∀ (j : Nat) t v, Tryz.f6.params[j]? = some t → args[j]? = some v → Value.okWide Tryz.prog W .any base t v := hval0
  have hW' := hW
  obtain ⟨p, q, hA0, hV, rfl, _, _⟩ := hW
  have hA : DataW.TrodAll enc Tryz.prog W 0 (fun _ => true) true Tryz.f6.params.toList args.toList ds p := hA0
  rw [Tryz.params6] at hA hval
  obtain ⟨v0, d0, rfl, rfl, h0⟩ := trodAll_one hA
  obtain ⟨rfl, rfl⟩ := trodVars_none hV
  obtain ⟨sp, slen, sc, rfl⟩ := okWide_slice Tryz.underlying23 (hval 0 23 v0 rfl rfl)
  have hbk : Rows.uptoBulk d0 ≤ 1048576 := by
    have h9 : Rows.uptoBulkAll ([d0] ++ []) ≤ 1048576 := of_decide_eq_true hk
    have h8 := bulk_in (d := d0) (l := [d0] ++ []) (by simp)
    omega
  obtain ⟨ops, hol, hom, hops, hfit⟩ := ops_read (hval 0 23 _ rfl rfl) h0 hbk
  clear hA0 hval0 hk hbk
  simp only [List.append_nil] at hW'
  have hlt : ∀ x ∈ p, x.block < W.heap.size := fun x hx => hW'.lt x (by simpa using hx)
  subst hol
  refine (all_at W sp sc ops hops hfit hom).mono fun e W' ⟨he, hB⟩ => ?_
  subst he
  have r0 : DataW.Trod enc Tryz.prog W' 0 (fun b => decide (b < W.heap.size)) true 23 (.slice sp ops.length sc) d0 p := Below.trod laidOut (by kernel_rfl) (of_decide_eq_true (by kernel_rfl)) h0 hB hlt
  exact ⟨_, rfl, _, _, _, [], p, [], hW', (trodAll_cons_mk (shut_bool Tryz.underlying4 _) trodAll_mk0), trodAll_mk1 r0, rfl, hB.frame _, fun h => by cases h⟩

theorem over : Rows.allUptoRow.holds Tryz.pinned (Rows.OpenSpec.upto Rows.allSpec) :=
  OpenClaim.holds_of_cond 6 Tryz.f6 rfl rfl rfl rfl rfl rfl rfl ⟨rfl, rfl, rfl, rfl, rfl⟩ rfl rfl rfl rfl rfl (by kernel_rfl) Tryz.func6 (by kernel_rfl)
    (of_decide_eq_true (by kernel_rfl)) (by unfold Func.isWrapper; first | (rw [if_pos (by decide +kernel)]; kernel_rfl) | (rw [if_neg (by decide +kernel)]; exact ⟨rfl, rfl⟩))
    (fun os started H enc _ F => lifted os started H enc F)
end Go.Proofs.YtgebcnnenhgkcaaGreat.all

namespace Go.Proofs.YtgebcnnenhgkcaaGreat
theorem all_proved : Rows.AllUptoSaid := all.over
#print axioms all_proved
end Go.Proofs.YtgebcnnenhgkcaaGreat
