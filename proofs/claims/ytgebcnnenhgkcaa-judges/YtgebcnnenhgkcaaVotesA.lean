/- The library's look for a vote in a list of votes. -/
import Derived.Test.YtgebcnnenhgkcaaMem
import Derived.Laws.StructEq
import Derived.Deep.QuietTactic
import Derived.BigQuiet
namespace Go.Proofs.Ytgebcnnenhgkcaa
open Go.RowKit

theorem vote_eql (x y : Vt) (w : World) : (binOp .eql 70 x.val y.val).run Try.prog w = .ok (.bool (x.is y)) w := by
  have h : (Op.equalIn 10000 70 x.val y.val).run Try.prog w = .ok (x.is y) w := by
    rw [run_equalIn_struct w 9999 70 _ _ (by kernel_rfl) (by kernel_rfl)]
    have hf : (Try.prog.fieldsOf 70).toList.map (fun f => (f.name, f.type, f.offset)) = [("Voter", 3, 0), ("Source", 3, 1), ("Target", 3, 2)] := by kernel_rfl
    obtain ⟨f0, f1, f2, hfs, e0, e1, e2⟩ : ∃ f0 f1 f2 : Field, (Try.prog.fieldsOf 70).toList = [f0, f1, f2] ∧ (f0.name, f0.type, f0.offset) = ("Voter", 3, 0) ∧ (f1.name, f1.type, f1.offset) = ("Source", 3, 1) ∧ (f2.name, f2.type, f2.offset) = ("Target", 3, 2) := by
      match hl : (Try.prog.fieldsOf 70).toList with
      | [a, b, c] => rw [hl] at hf; simp only [List.map_cons, List.map_nil, List.cons.injEq] at hf; exact ⟨a, b, c, rfl, hf.1, hf.2.1, hf.2.2.1⟩
      | [] => rw [hl] at hf; simp at hf
      | [_] => rw [hl] at hf; simp at hf
      | [_, _] => rw [hl] at hf; simp at hf
      | _ :: _ :: _ :: _ :: _ => rw [hl] at hf; simp at hf
    rw [hfs]
    simp only [Prod.mk.injEq] at e0 e1 e2
    obtain ⟨n0, t0, o0⟩ := e0
    obtain ⟨n1, t1, o1⟩ := e1
    obtain ⟨n2, t2, o2⟩ := e2
    simp [Op.eqFields, n0, n1, n2, t0, t1, t2, o0, o1, o2, go_sem, Vt.is]
    by_cases h0 : x.v = y.v <;> by_cases h1 : x.s = y.s <;> by_cases h2 : x.t = y.t <;> simp [h0, h1, h2]
  simp only [binOp]
  simp [Op.equal, Op.maxDepth, h]

/-- A row of votes: its address and its cells. -/
theorem vrow_open {w : World} {vs : List Vt} {v : Value} (h : w.ownsRow 0 70 3 v vs.length (vtRow vs)) (hp : 0 < vs.length) :
    ∃ g cap, v = .slice (some ⟨g, 0, none⟩) vs.length cap ∧ vs.length ≤ cap ∧ cap ≤ maxLen ∧
      (∀ j x, vs[j]? = some x → w.cell? ⟨g, j * 3, none⟩ = some (I64 x.v) ∧ w.cell? ⟨g, j * 3 + 1, none⟩ = some (I64 x.s) ∧ w.cell? ⟨g, j * 3 + 2, none⟩ = some (I64 x.t)) ∧ ∀ j, w.frozen? ⟨g, j, none⟩ = false := by
  have h' := h
  rcases h.2 with ⟨_, hn⟩ | ⟨g, cap, cur, rfl, _, hg, hle, hm, hs, ht⟩
  · omega
  · refine ⟨g, cap, rfl, hle, hm, fun j x hj => ?_, fun j => h'.frozenAt j⟩
    have hlt : j < vs.length := (List.getElem?_eq_some_iff.1 hj).1
    have := vtRow_at vs j x hj
    rw [Nat.mul_comm 3 j] at this
    rw [h'.cellAt _ (by omega), h'.cellAt _ (by omega), h'.cellAt _ (by omega)]
    exact this

/-- The cells of a list of votes in the block g. -/
def VCells (w : World) (g : Nat) (vs : List Vt) : Prop :=
  ∀ j x, vs[j]? = some x → w.cell? ⟨g, j * 3, none⟩ = some (I64 x.v) ∧ w.cell? ⟨g, j * 3 + 1, none⟩ = some (I64 x.s) ∧ w.cell? ⟨g, j * 3 + 2, none⟩ = some (I64 x.t)
theorem VCells.below {w w' : World} {g B : Nat} {vs : List Vt} (h : VCells w g vs) (hB : Below B w w') (hg : g < B) : VCells w' g vs := fun j x hj => by
  obtain ⟨h0, h1, h2⟩ := h j x hj
  exact ⟨(hB.cell (p := ⟨g, j * 3, none⟩) hg).trans h0, (hB.cell (p := ⟨g, j * 3 + 1, none⟩) hg).trans h1, (hB.cell (p := ⟨g, j * 3 + 2, none⟩) hg).trans h2⟩
theorem VCells.lt {w : World} {g : Nat} {vs : List Vt} (h : VCells w g vs) (hp : 0 < vs.length) : g < w.heap.size := by
  obtain ⟨x, hx⟩ : ∃ x, vs[0]? = some x := ⟨_, List.getElem?_eq_getElem hp⟩
  exact World.block_lt_of_cell? w _ (h 0 x hx).1
set_option maxHeartbeats 800000 in
theorem idx_at (g cap : Nat) (vs : List Vt) (x : Vt) (w : World) (hlen : vs.length ≤ 301) (hcs : VCells w g vs) (hp : 0 < vs.length) :
    Calls Try.prog 104 #[.slice (some ⟨g, 0, none⟩) vs.length cap, x.val] w fun e w' =>
      (∃ i : Int, e = .returned (.int .i64 i) ∧ decide (0 ≤ i) = vs.any (fun y => x.is y)) ∧ Below w.heap.size w w' := by
  have hgl := hcs.lt hp
  go_enter Try.func104, Try.ntmps104
  go_wp2
  go_loopw [8] (fun i wr => ∃ k : Nat, k ≤ vs.length ∧ i = .int .i64 k ∧ Hid ((vs.take k).any (fun y => x.is y) = false) ∧ Below w.heap.size w wr ∧ wr.cell? ⟨w.heap.size, 0, none⟩ = some (I64 x.v) ∧ wr.cell? ⟨w.heap.size, 1, none⟩ = some (I64 x.s) ∧ wr.cell? ⟨w.heap.size, 2, none⟩ = some (I64 x.t))
    (fun i _ => vs.length - (intOf i).toNat)
  case atStart => exact ⟨0, by omega, rfl, by simp [Hid], (Below.refl _ _).alloc (Nat.le_refl _) _, by simp [go_sem], by simp [go_sem], by simp [go_sem]⟩
  case round =>
    obtain ⟨k, hk, rfl, hno, hB, b0, b1, b2⟩ := hrel
    by_cases hlt : k < vs.length
    · obtain ⟨y, hy⟩ : ∃ y, vs[k]? = some y := ⟨_, List.getElem?_eq_getElem hlt⟩
      obtain ⟨hc0, hc1, hc2⟩ := hcs.below hB hgl k y hy
      have heq := vote_eql x y
      have HY : Hid (vs[k]? = some y) := hy
      clear hy
      have hlt' : (k : Int) < (vs.length : Int) := by omega
      cases hxy : x.is y
      · go_wp2
        go_quiet (fail)
        go_wp2
        go_roundw
        case rel => exact ⟨k + 1, by omega, by go_num, by
          show _ = _
          rw [List.take_add_one, HY.out]; simp [hxy]; simpa using hno.out, below_drewN hB _, by simpa using b0, by simpa using b1, by simpa using b2⟩
        case measure => simp [intOf]; omega
      · go_wp2
        go_quiet (fail)
        go_wp2
        go_ret
        refine ⟨⟨_, rfl, ?_⟩, below_drewN hB _⟩
        have hm : y ∈ vs := List.mem_of_getElem? HY.out
        have : vs.any (fun y => x.is y) = true := List.any_eq_true.2 ⟨y, hm, hxy⟩
        rw [this]; simp
    · go_wp2
      go_ret
      refine ⟨⟨_, rfl, ?_⟩, hB⟩
      have := hno.out
      rw [List.take_of_length_le (by omega)] at this
      rw [this]; rfl

/-- Is a vote among those that were given? -/
theorem contains_at (g cap : Nat) (vs : List Vt) (x : Vt) (w : World) (hlen : vs.length ≤ 301) (hcs : VCells w g vs) (hp : 0 < vs.length) :
    Calls Try.prog 83 #[.slice (some ⟨g, 0, none⟩) vs.length cap, x.val] w fun e w' =>
      e = .returned (.bool (vs.any (fun y => x.is y))) ∧ Below w.heap.size w w' := by
  have hgl := hcs.lt hp
  have hb : Below w.heap.size w (w.alloc (.cells #[I64 x.v, I64 x.s, I64 x.t] 70)) := (Below.refl _ _).alloc (Nat.le_refl _) _
  have hcs' := hcs.below hb hgl
  go_enter Try.func83, Try.ntmps83
  go_wp2_with fail
  refine (idx_at g cap vs x _ hlen hcs' hp).mono ?_
  rintro e w' ⟨⟨i, rfl, hi⟩, hB⟩
  have Hi : Hid (decide (0 ≤ i) = vs.any (fun y => x.is y)) := hi
  clear hi
  go_wp2
  go_ret
  exact ⟨by rw [← Hi.out]; rfl, hb.trans (hB.mono (by simp))⟩

theorem contains_nil (p : Option Addr) (c : Nat) (x : Vt) (w : World) :
    Calls Try.prog 83 #[.slice p 0 c, x.val] w fun e w' =>
      e = .returned (.bool false) ∧ Below w.heap.size w w' := by
  go_enter Try.func83, Try.ntmps83
  go_wp2
  go_rounds 1
  go_ret
  exact ⟨rfl, ((Below.refl _ _).alloc (Nat.le_refl _) _).alloc (by simp) _⟩
end Go.Proofs.Ytgebcnnenhgkcaa
