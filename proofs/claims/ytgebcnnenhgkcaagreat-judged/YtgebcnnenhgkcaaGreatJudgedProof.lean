/- It is proved that the law Judged returns true: whatever weights and votes the raw numbers make, of the proofs of any two final blocks Judge says that the blocks agree, or names guilty voters who have a third of all weight, each shown by a vote of the one proof and a vote of the other that nobody may give both. No condition but the form's own reach. -/
import Derived.Test.YtgebcnnenhgkcaaGreatJudgedB
import Derived.Test.YtgebcnnenhgkcaaGreatRows
import Derived.ProofKit
import Derived.SizedLaws
import Derived.OpenShut
import Derived.Carry
import Derived.Deep.Slices
namespace Go.Proofs.YtgebcnnenhgkcaaGreat.judged
open Go.ChangeShapes Go.WideShapes Go.ChangeAt Go.RowKit Go.Deep
set_option linter.unusedVariables false

theorem own : ownKnob Tryz.prog.godebug = none := by kernel_rfl
theorem laidOut : laidOutB Tryz.prog = true := by kernel_rfl
theorem cells_int : Tryz.prog.cellsOf 3 = 1 := by kernel_rfl

theorem slice_spot {P : Program} {w : World} {b0 : Nat} {t e : TypeId} {a : Addr} {len cap : Nat} (ht : P.underlying t = some (.slice e)) (h : Value.okWide P w .any b0 t (.slice (some a) len cap)) : (∃ g o, a = ⟨g, o, none⟩) ∧ a.block < w.heap.size := by
  simp only [Value.okWide, ht, Cell.okWide, Cell.ok, World.has] at h
  obtain ⟨g, o, s⟩ := a
  have hs : s = none := h.2.2.2.1
  subst hs
  refine ⟨⟨g, o, rfl⟩, ?_⟩
  obtain ⟨row, cells, h1, _⟩ := h.2.2.2.2
  dsimp only at h1 ⊢
  by_cases hl : g < w.heap.size
  · exact hl
  · have : w.heap[g]? = none := Array.getElem?_eq_none (by omega)
    simp [World.shape?, this] at h1

set_option maxRecDepth 100000 in
theorem ints_read {H : Type} {enc : TypeId × Value → H} {W : World} {b0 : Nat} {a : Option Addr} {len cap : Nat} {d : DataW H} {p : List MemPlace} (hv : Value.okWide Tryz.prog W .any b0 22 (.slice a len cap))
    (h : DataW.Trod enc Tryz.prog W 0 (fun _ => true) true 22 (.slice a len cap) d p) : ∃ ws : List Int, ws.length = len ∧ ws.length ≤ maxLen ∧ IntsAt W a ws ∧ (∀ x, a = some x → x.block < W.heap.size) ∧ ∀ r ∈ ws, -9223372036854775808 ≤ r ∧ r ≤ 9223372036854775807 := by
  obtain ⟨fuel, hf⟩ := h
  rcases open_ints Tryz.underlying22 Tryz.underlying3 cells_int hf with ⟨hcs, _⟩ | ⟨a', len', cap', zs, hcs, _, hl, hm, hz, hx, hcell, hwf⟩
  · simp [Value.cells] at hcs
    obtain ⟨rfl, rfl, rfl⟩ := hcs
    exact ⟨[], rfl, Nat.zero_le _, .inl rfl, fun x h => (by cases h), fun r h => (by cases h)⟩
  · simp [Value.cells] at hcs
    obtain ⟨rfl, rfl, rfl⟩ := hcs
    obtain ⟨⟨g, o, rfl⟩, hlt⟩ := slice_spot Tryz.underlying22 hv
    have hzc : zs.length = cap := by simpa using hz
    have htl : (zs.take len).length = len := by simp; omega
    refine ⟨zs.take len, htl, by omega, .inr ⟨g, o, rfl, fun j hj => ?_⟩, fun x h => (by cases h; exact hlt), fun r hr => ?_⟩
    · have := hcell j (by omega)
      rw [add_none] at this
      rw [this, List.getElem?_take_of_lt (by omega)]
      simp [List.getD]
    · have := hwf r (List.mem_of_mem_take hr)
      have h2 : (decide (IntKind.i64.min ≤ r) && decide (r ≤ IntKind.i64.max)) = true := this
      simp only [Bool.and_eq_true, decide_eq_true_eq] at h2
      have h3 : IntKind.i64.min = -9223372036854775808 := by decide
      have h4 : IntKind.i64.max = 9223372036854775807 := by decide
      rw [h3, h4] at h2
      exact h2

set_option maxRecDepth 100000 in
theorem lifted (os : Os) (started : os.Started) (H : Type) (enc : TypeId × Value → H) :
    ReturnsInHanded {} Tryz.checked os 7 .any (Rows.judgedSpec.pre6 enc Tryz.prog Tryz.f7 Rows.judgedRow.domain false) (Rows.judgedSpec.post enc Tryz.prog Tryz.f7 false true false false) := by
  refine returnsInHanded_of_change_sized (C := Tryz.checked) own started (by kernel_rfl) Tryz.func7
    (ChangeSpec.witness6 (enc := enc) (C := Tryz.checked) false ⟨#[], #[.slice none 0 0, .slice none 0 0, .int .i64 0, .int .i64 0], []⟩ 8 (by kernel_rfl) (by kernel_rfl) (by kernel_rfl) (by kernel_rfl)) ?_
  intro W base args ds gs before hval0 hW _ hsz0 _
  clear hsz0
  have hval : ∀ (j : Nat) t v, Tryz.f7.params[j]? = some t → args[j]? = some v → Value.okWide Tryz.prog W .any base t v := hval0
  have hW' := hW
  obtain ⟨p, q, hA0, hV, rfl, _, _⟩ := hW
  have hA : DataW.TrodAll enc Tryz.prog W 0 (fun _ => true) true Tryz.f7.params.toList args.toList ds p := hA0
  rw [Tryz.params7] at hA hval
  obtain ⟨v0, v1, v2, v3, d0, d1, d2, d3, p0, p1, p2, p3, rfl, rfl, rfl, h0, h1, h2, h3⟩ := trodAll_four hA
  obtain ⟨rfl, rfl⟩ := trodVars_none hV
  obtain ⟨kb, rfl, rfl, rfl, wkb⟩ := open_int Tryz.underlying3 (hval 3 3 v3 rfl rfl) h3
  obtain ⟨ka, rfl, rfl, rfl, wka⟩ := open_int Tryz.underlying3 (hval 2 3 v2 rfl rfl) h2
  obtain ⟨a1, len1, cap1, rfl⟩ := okWide_slice Tryz.underlying22 (hval 1 22 v1 rfl rfl)
  obtain ⟨a0, len0, cap0, rfl⟩ := okWide_slice Tryz.underlying22 (hval 0 22 v0 rfl rfl)
  obtain ⟨raw, hr, hrm, hra, _, hrb⟩ := ints_read (hval 0 22 _ rfl rfl) h0
  obtain ⟨votes, hvt, hvm, hva, hvl, hvb⟩ := ints_read (hval 1 22 _ rfl rfl) h1
  have hin : ∀ k : Int, (Lit.int .i64 k).wf = true → -9223372036854775808 ≤ k ∧ k ≤ 9223372036854775807 := fun k hk => by
    have h2 : (decide (IntKind.i64.min ≤ k) && decide (k ≤ IntKind.i64.max)) = true := hk
    simp only [Bool.and_eq_true, decide_eq_true_eq] at h2
    have h3 : IntKind.i64.min = -9223372036854775808 := by decide
    have h4 : IntKind.i64.max = 9223372036854775807 := by decide
    rw [h3, h4] at h2
    exact h2
  have h0k := h0
  have h1k := h1
  clear hA0 hval0 h0 h1
  simp only [List.append_nil] at hW'
  have hlt : ∀ x ∈ p0 ++ p1, x.block < W.heap.size := fun x hx => hW'.lt x (by simpa using hx)
  subst hr hvt
  refine (kJudged_at a0 a1 cap0 cap1 raw votes ka kb W hra hva hvl hrm hvm hrb hvb (hin ka wka) (hin kb wkb)).mono fun e W' ⟨he, hB⟩ => ?_
  subst he
  have r0 : DataW.Trod enc Tryz.prog W' 0 (fun b => decide (b < W.heap.size)) true 22 (.slice a0 raw.length cap0) d0 p0 := Below.trod laidOut (by kernel_rfl) (of_decide_eq_true (by kernel_rfl)) h0k hB (fun x hx => hlt x (List.mem_append_left _ hx))
  have r1 : DataW.Trod enc Tryz.prog W' 0 (fun b => decide (b < W.heap.size)) true 22 (.slice a1 votes.length cap1) d1 p1 := Below.trod laidOut (by kernel_rfl) (of_decide_eq_true (by kernel_rfl)) h1k hB (fun x hx => hlt x (List.mem_append_right _ hx))
  exact ⟨_, rfl, _, _, _, [], p0 ++ (p1 ++ ([] ++ [])), [], hW', (trodAll_cons_mk (shut_bool Tryz.underlying4 _) trodAll_mk0), trodAll_mk4 r0 r1 (shut_int Tryz.underlying3 wka) (shut_int Tryz.underlying3 wkb), rfl, hB.frame _, fun h => by cases h⟩

theorem over : Rows.judgedRow.holds Tryz.pinned (OpenSpec.ofChange Rows.judgedSpec) :=
  OpenClaim.holds_of_wide 7 Tryz.f7 rfl rfl rfl rfl rfl rfl rfl ⟨rfl, rfl, rfl, rfl, rfl⟩ rfl rfl rfl rfl rfl (by kernel_rfl) Tryz.func7 (by kernel_rfl)
    (of_decide_eq_true (by kernel_rfl)) (by unfold Func.isWrapper; first | (rw [if_pos (by decide +kernel)]; kernel_rfl) | (rw [if_neg (by decide +kernel)]; exact ⟨rfl, rfl⟩))
    (fun os started H enc _ => lifted os started H enc)
end Go.Proofs.YtgebcnnenhgkcaaGreat.judged

namespace Go.Proofs.YtgebcnnenhgkcaaGreat
theorem judged_proved : Rows.JudgedSaid := judged.over
#print axioms judged_proved
end Go.Proofs.YtgebcnnenhgkcaaGreat
