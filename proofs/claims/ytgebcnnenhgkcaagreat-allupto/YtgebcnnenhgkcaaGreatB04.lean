/- IsAhead: it tells if a block is ahead of another one, and turns nothing. -/
import Derived.Laws.StructEq
import Derived.Deep.QuietTactic
import Derived.BigQuiet
import Derived.Deep.RegionHeld3
import Derived.WalkSpells
import Derived.Test.YtgebcnnenhgkcaaGreatB03
import Derived.Test.YtgebcnnenhgkcaaGreatB02
namespace Go.Proofs.YtgebcnnenhgkcaaGreat
open Go.RowKit Go.Shelf
attribute [local go_sem] Oper.semAt_some

set_option maxRecDepth 100000 in
set_option maxHeartbeats 2000000 in
theorem isAhead_at (b o g cap : Nat) (ps : List Int) (hT : Tree ps) (a k : Int) (hk0 : 0 ≤ k) (hk1 : k.toNat < ps.length) (w : World) (hA : TreeAt w b o g cap ps) :
    Calls Tryz.prog 112 #[.pointer (some ⟨b, o, none⟩), .int .i64 a, .int .i64 k] w fun e w' => e = .returned (.bool (ahead ps a k)) ∧ Below w.heap.size w w' := by
  have hfn : Fence.wide.fn 121 := trivial
  have hlb := hA.lt_b
  have hlg := hA.lt_g hT.1
  refine (callsIn_wide (n := 3)).1 ?_
  refine callsIn_of_wp_marks Tryz.func112 rfl trivial ?_ rfl
  simp only [Tryz.ntmps112, List.size_toArray, List.length_cons, List.length_nil, Nat.reduceAdd, Nat.reduceSub, Array.replicate_succ, Array.replicate_zero, List.push_toArray, List.append_toArray, List.nil_append, List.cons_append]
  gi_wp2_with (gi_at_call 121; refine (callsIn_wide.2 (ahead_makes b o k _)).mono ?_; rintro e w' ⟨rfl, rfl⟩)
  try simp only [World.size_alloc]
  obtain ⟨W0, hW0⟩ : ∃ W0, (((w.alloc (.cells #[.int .i64 a] 3)).alloc (.cells #[.bool false] 4)).alloc (.cells #[.pointer (some ⟨b, o, none⟩)] 147)).alloc (.cells #[.int .i64 k] 3) = W0 := ⟨_, rfl⟩
  have hs0 : W0.heap.size = w.heap.size + 1 + 1 + 1 + 1 := by rw [← hW0]; simp [go_sem]
  have c0 : W0.cell? ⟨w.heap.size, 0, none⟩ = some (.int .i64 a) := by rw [← hW0]; simp [go_sem]
  have c1 : W0.cell? ⟨w.heap.size + 1, 0, none⟩ = some (.bool false) ∧ W0.frozen? ⟨w.heap.size + 1, 0, none⟩ = false := by rw [← hW0]; simp [go_sem]
  have c2 : W0.cell? ⟨w.heap.size + 1 + 1, 0, none⟩ = some (.pointer (some ⟨b, o, none⟩)) := by rw [← hW0]; simp [go_sem]
  have c3 : W0.cell? ⟨w.heap.size + 1 + 1 + 1, 0, none⟩ = some (.int .i64 k) := by rw [← hW0]; simp [go_sem]
  have hB0 : Below w.heap.size w W0 := by rw [← hW0]; exact ((((Below.refl _ w).alloc (Nat.le_refl _) _).alloc (by simp) _).alloc (by simp; omega) _).alloc (by simp; omega) _
  rw [hW0]
  clear hW0
  refine wpIn_rangeFunc_ownF rfl (by omega) (gf := 144) (lb := #[.pointer (some ⟨w.heap.size + 1 + 1 + 1, 0, none⟩), .pointer (some ⟨w.heap.size + 1 + 1, 0, none⟩)]) rfl trivial (enters_of Tryz.func144 (by kernel_rfl) rfl)
    (ahead_stops 2 (w.heap.size + 1 + 1 + 1) (w.heap.size + 1 + 1) W0.heap.size b o g cap ps hT k hk0 hk1 W0 (by omega) (by omega) (by omega) (by omega) (Nat.le_refl _) c3 c2 (hA.below hB0 hlb hlg)) belowK_t (belowK_b (Nat.le_refl _)) (Below.refl _ _) (fun _ => rfl)
    (fun pre W => ((∀ y ∈ pre, y ≠ a) ∧ W.cell? ⟨w.heap.size, 0, none⟩ = some (.int .i64 a) ∧ W.cell? ⟨w.heap.size + 1, 0, none⟩ = some (.bool false) ∧ W.frozen? ⟨w.heap.size + 1, 0, none⟩ = false) ∧ Below w.heap.size w W)
    (fun c pre W => (c = .ret ∧ a ∈ pre ∧ W.cell? ⟨w.heap.size + 1, 0, none⟩ = some (.bool true)) ∧ Below w.heap.size w W)
    (OwnFrom.and (Own.from (fun s A B row hs hg hr => ⟨hs.1, cell_kept hs.2.1 hg hr, cell_kept hs.2.2.1 hg hr, (frozen_kept hs.2.2.1 hg hr).trans hs.2.2.2⟩) _) (ownFrom_below (Nat.le_refl _) (by omega)))
    (fun c => OwnFrom.and (Own.from (fun s A B row hs hg hr => ⟨hs.1, hs.2.1, cell_kept hs.2.2 hg hr⟩) _) (ownFrom_below (Nat.le_refl _) (by omega)))
    ⟨⟨by simp, c0, c1.1, c1.2⟩, hB0⟩
    (fun x => { tmps := #[.pointer (some ⟨b, o, none⟩), .int .i64 a, .int .i64 k, undef, .pointer (some ⟨w.heap.size, 0, none⟩), undef, .pointer (some ⟨w.heap.size + 1, 0, none⟩), .int .i64 x, .pointer (some ⟨b, o, none⟩), .int .i64 k, .func (.func 144) #[] #[.pointer (some ⟨w.heap.size + 1 + 1 + 1, 0, none⟩), .pointer (some ⟨w.heap.size + 1 + 1, 0, none⟩)], .int .i64 x, undef, undef, undef], defers := [] }) ?assign ?body ?done ?stop
  case assign =>
    intro l x W K hK
    gi_wp2
    exact hK
  case body =>
    rintro l pre x W ⟨⟨hp, hcw, hcr, hfr⟩, hB⟩ _
    gi_wp2
    · rename_i hx
      obtain rfl : x = a := eq_of_beq hx
      exact ⟨KeepsOthers.setCell _ _ _, ⟨rfl, List.mem_append.2 (.inr (by simp)), World.cell?_setCell_same' _ _ _ (by rw [hcr]; rfl)⟩, hB.setCell (p := ⟨w.heap.size + 1, 0, none⟩) (by simp) _⟩
    · rename_i hx
      exact ⟨KeepsOthers.refl _, Below.refl _ _, ⟨fun y hy => (List.mem_append.1 hy).elim (hp y) (fun e e' => by simp at e; subst e; subst e'; simp at hx), hcw, hcr, hfr⟩, hB⟩
  case done =>
    rintro D ys W hD rfl ⟨⟨hne, _, hcr, hfr⟩, hB⟩ hK
    gi_wp2
    have hK' := (KeepsOthers.setCell W ⟨w.heap.size + 1, 0, none⟩ (.bool false)).same D _ hK rfl
    refine ⟨by simp, .inl ⟨_, _, rfl, run_takeDeferred hK', ?_⟩⟩
    have hc5 := cell_kept (World.cell?_setCell_same' W ⟨w.heap.size + 1, 0, none⟩ (.bool false) (by rw [hcr]; rfl)) (grownBy_putObj' _ D (.deferred none)) (fun r e => by cases e; exact ⟨_, hK', rfl⟩)
    refine ⟨.bool false, ?_, by rw [show ahead ps a k = false from by unfold ahead; simpa using hne], (hB.setCell (p := ⟨w.heap.size + 1, 0, none⟩) (by simp) _).trans (belowK_b (w := w) (Nat.le_refl _) _ D _ _ (by omega) hK' rfl rfl)⟩
    simp [results, Tryz.f112, go_sem, hc5]
  case stop =>
    rintro D c pre W hD hpre ⟨⟨rfl, hin, hcr⟩, hB⟩ hK
    gi_wp2
    refine ⟨by simp, .inl ⟨_, _, rfl, run_takeDeferred hK, ?_⟩⟩
    have hc5 := cell_kept hcr (grownBy_putObj' _ D (.deferred none)) (fun r e => by cases e; exact ⟨_, hK, rfl⟩)
    refine ⟨.bool true, ?_, by rw [show ahead ps a k = true from by unfold ahead; simpa using hpre.subset hin], hB.trans (belowK_b (w := w) (Nat.le_refl _) W D _ _ (by omega) hK rfl rfl)⟩
    simp [results, Tryz.f112, go_sem, hc5]
end Go.Proofs.YtgebcnnenhgkcaaGreat
/- The library's look for a vote in a list of votes. -/
namespace Go.Proofs.YtgebcnnenhgkcaaGreat
open Go.RowKit

theorem vote_eql (x y : Vt) (w : World) : (binOp .eql 47 x.val y.val).run Tryz.prog w = .ok (.bool (x.is y)) w := by
  have h : (Op.equalIn 10000 47 x.val y.val).run Tryz.prog w = .ok (x.is y) w := by
    rw [run_equalIn_struct w 9999 47 _ _ (by kernel_rfl) (by kernel_rfl)]
    have hf : (Tryz.prog.fieldsOf 47).toList.map (fun f => (f.name, f.type, f.offset)) = [("Voter", 3, 0), ("Source", 3, 1), ("Target", 3, 2)] := by kernel_rfl
    obtain ⟨f0, f1, f2, hfs, e0, e1, e2⟩ : ∃ f0 f1 f2 : Field, (Tryz.prog.fieldsOf 47).toList = [f0, f1, f2] ∧ (f0.name, f0.type, f0.offset) = ("Voter", 3, 0) ∧ (f1.name, f1.type, f1.offset) = ("Source", 3, 1) ∧ (f2.name, f2.type, f2.offset) = ("Target", 3, 2) := by
      match hl : (Tryz.prog.fieldsOf 47).toList with
      | [a, b, c] => rw [hl] at hf; simp only [List.map_cons, List.map_nil, List.cons.injEq] at hf; exact ⟨a, b, c, rfl, hf.1, hf.2.1, hf.2.2.1⟩
      | [] => rw [hl] at hf; simp at hf
      | [_] => rw [hl] at hf; simp at hf
      | [_, _] => rw [hl] at hf; simp at hf
      | _ :: _ :: _ :: _ :: _ => rw [hl] at hf; simp at hf
    rw [hfs]
    simp only [Prod.mk.injEq] at e0 e1 e2
    obtain ⟨n0, t0, o0⟩ := e0
    obtain ⟨n1, t1, o1⟩ := e1
    obtain ⟨n2, t2, o2⟩ := e2
    simp [Op.eqFields, n0, n1, n2, t0, t1, t2, o0, o1, o2, go_sem, Vt.is]
    by_cases h0 : x.v = y.v <;> by_cases h1 : x.s = y.s <;> by_cases h2 : x.t = y.t <;> simp [h0, h1, h2]
  simp only [binOp]
  simp [Op.equal, Op.maxDepth, h]

/-- A row of votes: its address and its cells. -/
theorem vrow_open {w : World} {vs : List Vt} {v : Value} (h : w.ownsRow 0 47 3 v vs.length (vtRow vs)) (hp : 0 < vs.length) :
    ∃ g cap, v = .slice (some ⟨g, 0, none⟩) vs.length cap ∧ vs.length ≤ cap ∧ cap ≤ maxLen ∧
      (∀ j x, vs[j]? = some x → w.cell? ⟨g, j * 3, none⟩ = some (I64 x.v) ∧ w.cell? ⟨g, j * 3 + 1, none⟩ = some (I64 x.s) ∧ w.cell? ⟨g, j * 3 + 2, none⟩ = some (I64 x.t)) ∧ ∀ j, w.frozen? ⟨g, j, none⟩ = false := by
  have h' := h
  rcases h.2 with ⟨_, hn⟩ | ⟨g, cap, cur, rfl, _, hg, hle, hm, hs, ht⟩
  · omega
  · refine ⟨g, cap, rfl, hle, hm, fun j x hj => ?_, fun j => h'.frozenAt j⟩
    have hlt : j < vs.length := (List.getElem?_eq_some_iff.1 hj).1
    have := vtRow_at vs j x hj
    rw [Nat.mul_comm 3 j] at this
    rw [h'.cellAt _ (by omega), h'.cellAt _ (by omega), h'.cellAt _ (by omega)]
    exact this

/-- The cells of a list of votes in the block g. -/
def VCells (w : World) (g : Nat) (vs : List Vt) : Prop :=
  ∀ j x, vs[j]? = some x → w.cell? ⟨g, j * 3, none⟩ = some (I64 x.v) ∧ w.cell? ⟨g, j * 3 + 1, none⟩ = some (I64 x.s) ∧ w.cell? ⟨g, j * 3 + 2, none⟩ = some (I64 x.t)
theorem VCells.below {w w' : World} {g B : Nat} {vs : List Vt} (h : VCells w g vs) (hB : Below B w w') (hg : g < B) : VCells w' g vs := fun j x hj => by
  obtain ⟨h0, h1, h2⟩ := h j x hj
  exact ⟨(hB.cell (p := ⟨g, j * 3, none⟩) hg).trans h0, (hB.cell (p := ⟨g, j * 3 + 1, none⟩) hg).trans h1, (hB.cell (p := ⟨g, j * 3 + 2, none⟩) hg).trans h2⟩
theorem VCells.lt {w : World} {g : Nat} {vs : List Vt} (h : VCells w g vs) (hp : 0 < vs.length) : g < w.heap.size := by
  obtain ⟨x, hx⟩ : ∃ x, vs[0]? = some x := ⟨_, List.getElem?_eq_getElem hp⟩
  exact World.block_lt_of_cell? w _ (h 0 x hx).1
set_option maxHeartbeats 800000 in
theorem idx_at (g cap : Nat) (vs : List Vt) (x : Vt) (w : World) (hlen : vs.length ≤ 301) (hcs : VCells w g vs) (hp : 0 < vs.length) :
    Calls Tryz.prog 136 #[.slice (some ⟨g, 0, none⟩) vs.length cap, x.val] w fun e w' =>
      (∃ i : Int, e = .returned (.int .i64 i) ∧ decide (0 ≤ i) = vs.any (fun y => x.is y)) ∧ Below w.heap.size w w' := by
  have hgl := hcs.lt hp
  go_enter Tryz.func136, Tryz.ntmps136
  go_wp2
  go_loopw [8] (fun i wr => ∃ k : Nat, k ≤ vs.length ∧ i = .int .i64 k ∧ Hid ((vs.take k).any (fun y => x.is y) = false) ∧ Below w.heap.size w wr ∧ wr.cell? ⟨w.heap.size, 0, none⟩ = some (I64 x.v) ∧ wr.cell? ⟨w.heap.size, 1, none⟩ = some (I64 x.s) ∧ wr.cell? ⟨w.heap.size, 2, none⟩ = some (I64 x.t))
    (fun i _ => vs.length - (intOf i).toNat)
  case atStart => exact ⟨0, by omega, rfl, by simp [Hid], (Below.refl _ _).alloc (Nat.le_refl _) _, by simp [go_sem], by simp [go_sem], by simp [go_sem]⟩
  case round =>
    obtain ⟨k, hk, rfl, hno, hB, b0, b1, b2⟩ := hrel
    by_cases hlt : k < vs.length
    · obtain ⟨y, hy⟩ : ∃ y, vs[k]? = some y := ⟨_, List.getElem?_eq_getElem hlt⟩
      obtain ⟨hc0, hc1, hc2⟩ := hcs.below hB hgl k y hy
      have heq := vote_eql x y
      have HY : Hid (vs[k]? = some y) := hy
      clear hy
      have hlt' : (k : Int) < (vs.length : Int) := by omega
      cases hxy : x.is y
      · go_wp2
        go_quiet (fail)
        go_wp2
        go_roundw
        case rel => exact ⟨k + 1, by omega, by go_num, by
          show _ = _
          rw [List.take_add_one, HY.out]; simp [hxy]; simpa using hno.out, below_drewN hB _, by simpa using b0, by simpa using b1, by simpa using b2⟩
        case measure => simp [intOf]; omega
      · go_wp2
        go_quiet (fail)
        go_wp2
        go_ret
        refine ⟨⟨_, rfl, ?_⟩, below_drewN hB _⟩
        have hm : y ∈ vs := List.mem_of_getElem? HY.out
        have : vs.any (fun y => x.is y) = true := List.any_eq_true.2 ⟨y, hm, hxy⟩
        rw [this]; simp
    · go_wp2
      go_ret
      refine ⟨⟨_, rfl, ?_⟩, hB⟩
      have := hno.out
      rw [List.take_of_length_le (by omega)] at this
      rw [this]; rfl

/-- Is a vote among those that were given? -/
theorem contains_at (g cap : Nat) (vs : List Vt) (x : Vt) (w : World) (hlen : vs.length ≤ 301) (hcs : VCells w g vs) (hp : 0 < vs.length) :
    Calls Tryz.prog 113 #[.slice (some ⟨g, 0, none⟩) vs.length cap, x.val] w fun e w' =>
      e = .returned (.bool (vs.any (fun y => x.is y))) ∧ Below w.heap.size w w' := by
  have hgl := hcs.lt hp
  have hb : Below w.heap.size w (w.alloc (.cells #[I64 x.v, I64 x.s, I64 x.t] 47)) := (Below.refl _ _).alloc (Nat.le_refl _) _
  have hcs' := hcs.below hb hgl
  go_enter Tryz.func113, Tryz.ntmps113
  go_wp2_with fail
  refine (idx_at g cap vs x _ hlen hcs' hp).mono ?_
  rintro e w' ⟨⟨i, rfl, hi⟩, hB⟩
  have Hi : Hid (decide (0 ≤ i) = vs.any (fun y => x.is y)) := hi
  clear hi
  go_wp2
  go_ret
  exact ⟨by rw [← Hi.out]; rfl, hb.trans (hB.mono (by simp))⟩

theorem contains_nil (p : Option Addr) (c : Nat) (x : Vt) (w : World) :
    Calls Tryz.prog 113 #[.slice p 0 c, x.val] w fun e w' =>
      e = .returned (.bool false) ∧ Below w.heap.size w w' := by
  go_enter Tryz.func113, Tryz.ntmps113
  go_wp2
  go_rounds 1
  go_ret
  exact ⟨rfl, ((Below.refl _ _).alloc (Nat.le_refl _) _).alloc (by simp) _⟩
end Go.Proofs.YtgebcnnenhgkcaaGreat
/- What speaks against a vote: the program's faultOf. -/
namespace Go.Proofs.YtgebcnnenhgkcaaGreat
open Go.RowKit

theorem whas_at (p : Option Addr) (n c : Nat) (k : Int) (w : World) :
    Calls Tryz.prog 111 #[.slice p n c, .int .i64 k] w fun e w' => e = .returned (.bool (hasB n k)) ∧ w' = w := by
  by_cases h0 : 0 ≤ k
  all_goals
    go_enter Tryz.func111, Tryz.ntmps111
    go_wp2
    go_ret
    exact ⟨by simp [hasB]; omega, rfl⟩

/-- What speaks against a vote, whatever the number of votes. -/
def fault (nw : Nat) (ps : List Int) (vs : List Vt) (x : Vt) : Int :=
  if hasB nw x.v = false then 3 else if hasB ps.length x.s = false ∨ hasB ps.length x.t = false then 4 else if ahead ps x.s x.t = false then 5 else if vs.any (fun y => x.is y) = true then 6 else 0

/-- A list of votes as a slice: nil, or a row of its own. -/
def VRow (w : World) (vv : Value) (vs : List Vt) : Prop := ((∃ p c, vv = .slice p 0 c) ∧ vs = []) ∨ ∃ gv cap, vv = .slice (some ⟨gv, 0, none⟩) vs.length cap ∧ 0 < vs.length ∧ VCells w gv vs
theorem VRow.below {w w' : World} {vv : Value} {vs : List Vt} (h : VRow w vv vs) (hB : Below w.heap.size w w') : VRow w' vv vs := by
  rcases h with h | ⟨gv, cap, h1, h2, h3⟩
  · exact .inl h
  · exact .inr ⟨gv, cap, h1, h2, h3.below hB (h3.lt h2)⟩
theorem contains_any (vv : Value) (vs : List Vt) (x : Vt) (w : World) (hlen : vs.length ≤ 301) (h : VRow w vv vs) :
    Calls Tryz.prog 113 #[vv, x.val] w fun e w' =>
      e = .returned (.bool (vs.any (fun y => x.is y))) ∧ Below w.heap.size w w' := by
  rcases h with ⟨⟨p, c, rfl⟩, rfl⟩ | ⟨gv, cap, rfl, h2, h3⟩
  · exact contains_nil p c x w
  · exact contains_at gv cap vs x w hlen h3 h2

/-- What faultOf asks of memory. -/
structure FaultAt (w : World) (b : Nat) (nw : Nat) (ps : List Int) (vs : List Vt) (wp : Option Addr) (wc g gc : Nat) (vv : Value) : Prop where
  c2 : w.cell? ⟨b, 2, none⟩ = some (.slice wp nw wc)
  tree : TreeAt w b 3 g gc ps
  c4 : w.cell? ⟨b, 4, none⟩ = some vv
  vc : VRow w vv vs
  T : Tree ps
  len : vs.length ≤ 301

set_option maxHeartbeats 1000000 in
theorem fault3 (b nw : Nat) (ps : List Int) (vs : List Vt) (wp : Option Addr) (wc g gc : Nat) (vv : Value) (x : Vt) (w : World) (h : FaultAt w b nw ps vs wp wc g gc vv) (hv : hasB nw x.v = false) :
    Calls Tryz.prog 89 #[.pointer (some ⟨b, 0, none⟩), x.val] w fun e w' => e = .returned (.int .i64 3) ∧ Below w.heap.size w w' := by
  obtain ⟨h2, hA, h4, hvc, hT, hlen⟩ := h
  have hbl := hA.lt_b
  go_enter Tryz.func89, Tryz.ntmps89
  go_wp2
  go_quiet ((go_at_call 111; exact Calls.quiet_of_same (whas_at wp nw wc x.v _)))
  go_wp2
  go_ret
  exact ⟨rfl, below_drewN ((Below.refl _ _).alloc (Nat.le_refl _) _) _⟩

set_option maxHeartbeats 1000000 in
theorem fault4s (b nw : Nat) (ps : List Int) (vs : List Vt) (wp : Option Addr) (wc g gc : Nat) (vv : Value) (x : Vt) (w : World) (h : FaultAt w b nw ps vs wp wc g gc vv) (hv : hasB nw x.v = true) (hs : hasB ps.length x.s = false) :
    Calls Tryz.prog 89 #[.pointer (some ⟨b, 0, none⟩), x.val] w fun e w' => e = .returned (.int .i64 4) ∧ Below w.heap.size w w' := by
  obtain ⟨h2, hA, h4, hvc, hT, hlen⟩ := h
  have hbl := hA.lt_b
  go_enter Tryz.func89, Tryz.ntmps89
  go_wp2
  go_quiet ((go_at_call 111; exact Calls.quiet_of_same (whas_at wp nw wc x.v _)))
  obtain ⟨W1, hW1⟩ : ∃ W1, (w.alloc (.cells #[I64 x.v, I64 x.s, I64 x.t] 47)).drewN nq = W1 := ⟨_, rfl⟩
  have hB1 : Below w.heap.size w W1 := by rw [← hW1]; exact below_drewN ((Below.refl _ _).alloc (Nat.le_refl _) _) _
  have k0 : W1.cell? ⟨w.heap.size, 0, none⟩ = some (I64 x.v) := by rw [← hW1]; simp [go_sem]
  have k1 : W1.cell? ⟨w.heap.size, 1, none⟩ = some (I64 x.s) := by rw [← hW1]; simp [go_sem]
  have k2 : W1.cell? ⟨w.heap.size, 2, none⟩ = some (I64 x.t) := by rw [← hW1]; simp [go_sem]
  rw [hW1]
  clear hW1 nq
  have hA1 := hA.below hB1 hbl (hA.lt_g hT.1)
  have h31 := hA1.pv
  go_wp2
  go_quiet ((go_at_call 86; refine Calls.quiet_of_same (has_at b 3 (some ⟨g, 0, none⟩) ps.length gc _ _ ?_); simpa using h31))
  go_wp2
  go_ret
  exact ⟨rfl, below_drewN hB1 _⟩

set_option maxHeartbeats 1000000 in
theorem fault4t (b nw : Nat) (ps : List Int) (vs : List Vt) (wp : Option Addr) (wc g gc : Nat) (vv : Value) (x : Vt) (w : World) (h : FaultAt w b nw ps vs wp wc g gc vv) (hv : hasB nw x.v = true) (hs : hasB ps.length x.s = true) (ht : hasB ps.length x.t = false) :
    Calls Tryz.prog 89 #[.pointer (some ⟨b, 0, none⟩), x.val] w fun e w' => e = .returned (.int .i64 4) ∧ Below w.heap.size w w' := by
  obtain ⟨h2, hA, h4, hvc, hT, hlen⟩ := h
  have hbl := hA.lt_b
  go_enter Tryz.func89, Tryz.ntmps89
  go_wp2
  go_quiet ((go_at_call 111; exact Calls.quiet_of_same (whas_at wp nw wc x.v _)))
  obtain ⟨W1, hW1⟩ : ∃ W1, (w.alloc (.cells #[I64 x.v, I64 x.s, I64 x.t] 47)).drewN nq = W1 := ⟨_, rfl⟩
  have hB1 : Below w.heap.size w W1 := by rw [← hW1]; exact below_drewN ((Below.refl _ _).alloc (Nat.le_refl _) _) _
  have k0 : W1.cell? ⟨w.heap.size, 0, none⟩ = some (I64 x.v) := by rw [← hW1]; simp [go_sem]
  have k1 : W1.cell? ⟨w.heap.size, 1, none⟩ = some (I64 x.s) := by rw [← hW1]; simp [go_sem]
  have k2 : W1.cell? ⟨w.heap.size, 2, none⟩ = some (I64 x.t) := by rw [← hW1]; simp [go_sem]
  rw [hW1]
  clear hW1 nq
  have hA1 := hA.below hB1 hbl (hA.lt_g hT.1)
  have h31 := hA1.pv
  go_wp2
  go_quiet ((go_at_call 86; refine Calls.quiet_of_same (has_at b 3 (some ⟨g, 0, none⟩) ps.length gc _ _ ?_); simpa using h31))
  go_wp2
  go_ret
  exact ⟨rfl, below_drewN hB1 _⟩

set_option maxHeartbeats 1000000 in
theorem fault5 (b nw : Nat) (ps : List Int) (vs : List Vt) (wp : Option Addr) (wc g gc : Nat) (vv : Value) (x : Vt) (w : World) (h : FaultAt w b nw ps vs wp wc g gc vv) (hv : hasB nw x.v = true) (hs : hasB ps.length x.s = true) (ht : hasB ps.length x.t = true) (ha : ahead ps x.s x.t = false) :
    Calls Tryz.prog 89 #[.pointer (some ⟨b, 0, none⟩), x.val] w fun e w' => e = .returned (.int .i64 5) ∧ Below w.heap.size w w' := by
  obtain ⟨h2, hA, h4, hvc, hT, hlen⟩ := h
  have hbl := hA.lt_b
  go_enter Tryz.func89, Tryz.ntmps89
  go_wp2
  go_quiet ((go_at_call 111; exact Calls.quiet_of_same (whas_at wp nw wc x.v _)))
  obtain ⟨W1, hW1⟩ : ∃ W1, (w.alloc (.cells #[I64 x.v, I64 x.s, I64 x.t] 47)).drewN nq = W1 := ⟨_, rfl⟩
  have hB1 : Below w.heap.size w W1 := by rw [← hW1]; exact below_drewN ((Below.refl _ _).alloc (Nat.le_refl _) _) _
  have k0 : W1.cell? ⟨w.heap.size, 0, none⟩ = some (I64 x.v) := by rw [← hW1]; simp [go_sem]
  have k1 : W1.cell? ⟨w.heap.size, 1, none⟩ = some (I64 x.s) := by rw [← hW1]; simp [go_sem]
  have k2 : W1.cell? ⟨w.heap.size, 2, none⟩ = some (I64 x.t) := by rw [← hW1]; simp [go_sem]
  rw [hW1]
  clear hW1 nq
  have hA1 := hA.below hB1 hbl (hA.lt_g hT.1)
  have h31 := hA1.pv
  go_wp2
  go_quiet ((go_at_call 86; refine Calls.quiet_of_same (has_at b 3 (some ⟨g, 0, none⟩) ps.length gc _ _ ?_); simpa using h31))
  obtain ⟨W2, hW2⟩ : ∃ W2, W1.drewN nq = W2 := ⟨_, rfl⟩
  have hB2 : Below w.heap.size w W2 := by rw [← hW2]; exact below_drewN hB1 _
  have l0 : W2.cell? ⟨w.heap.size, 0, none⟩ = some (I64 x.v) := by rw [← hW2]; simpa using k0
  have l1 : W2.cell? ⟨w.heap.size, 1, none⟩ = some (I64 x.s) := by rw [← hW2]; simpa using k1
  have l2 : W2.cell? ⟨w.heap.size, 2, none⟩ = some (I64 x.t) := by rw [← hW2]; simpa using k2
  rw [hW2]
  clear hW2 nq hA1 h31 k0 k1 k2 hB1
  have hz2 : w.heap.size < W2.heap.size := World.block_lt_of_cell? W2 _ l1
  have ht0 : 0 ≤ x.t ∧ x.t.toNat < ps.length := by simp [hasB] at ht; omega
  go_wp2
  have hA2 : TreeAt W2.drew b 3 g gc ps := hA.below hB2.drew hbl (hA.lt_g hT.1)
  go_region_held3 (fun w' => Below (w.heap.size + 1) W2 w' ∧ w'.cell? ⟨w.heap.size, 1, none⟩ = some (I64 x.s) ∧ w'.cell? ⟨w.heap.size, 2, none⟩ = some (I64 x.t))
    (first | (refine ⟨by assumption, by assumption, by assumption⟩) | (refine ⟨Below.drew (Below.refl _ _), ?_, ?_⟩ <;> simpa))
    ((go_at_call 112; refine (isAhead_at b 3 g gc ps hT _ _ ht0.1 ht0.2 _ hA2).mono ?_; rintro e w3 ⟨rfl, hB3⟩; rw [ha]
      have e0 : Below (w.heap.size + 1) W2 w3 := (Below.drew (Below.refl _ _)).trans (hB3.mono (by simp; omega))
      have e1 : w3.cell? ⟨w.heap.size, 1, none⟩ = some (I64 x.s) := (e0.cell (p := ⟨w.heap.size, 1, none⟩) (by simp)).trans l1
      have e2 : w3.cell? ⟨w.heap.size, 2, none⟩ = some (I64 x.t) := (e0.cell (p := ⟨w.heap.size, 2, none⟩) (by simp)).trans l2))
  go_wp2
  go_ret
  exact ⟨rfl, hB2.trans (e0.mono (by omega))⟩

set_option maxHeartbeats 1000000 in
theorem fault6 (b nw : Nat) (ps : List Int) (vs : List Vt) (wp : Option Addr) (wc g gc : Nat) (vv : Value) (x : Vt) (w : World) (h : FaultAt w b nw ps vs wp wc g gc vv) (hv : hasB nw x.v = true) (hs : hasB ps.length x.s = true) (ht : hasB ps.length x.t = true) (ha : ahead ps x.s x.t = true) (hany : vs.any (fun y => x.is y) = true) :
    Calls Tryz.prog 89 #[.pointer (some ⟨b, 0, none⟩), x.val] w fun e w' => e = .returned (.int .i64 6) ∧ Below w.heap.size w w' := by
  obtain ⟨h2, hA, h4, hvc, hT, hlen⟩ := h
  have hbl := hA.lt_b
  go_enter Tryz.func89, Tryz.ntmps89
  go_wp2
  go_quiet ((go_at_call 111; exact Calls.quiet_of_same (whas_at wp nw wc x.v _)))
  obtain ⟨W1, hW1⟩ : ∃ W1, (w.alloc (.cells #[I64 x.v, I64 x.s, I64 x.t] 47)).drewN nq = W1 := ⟨_, rfl⟩
  have hB1 : Below w.heap.size w W1 := by rw [← hW1]; exact below_drewN ((Below.refl _ _).alloc (Nat.le_refl _) _) _
  have k0 : W1.cell? ⟨w.heap.size, 0, none⟩ = some (I64 x.v) := by rw [← hW1]; simp [go_sem]
  have k1 : W1.cell? ⟨w.heap.size, 1, none⟩ = some (I64 x.s) := by rw [← hW1]; simp [go_sem]
  have k2 : W1.cell? ⟨w.heap.size, 2, none⟩ = some (I64 x.t) := by rw [← hW1]; simp [go_sem]
  rw [hW1]
  clear hW1 nq
  have hA1 := hA.below hB1 hbl (hA.lt_g hT.1)
  have h31 := hA1.pv
  go_wp2
  go_quiet ((go_at_call 86; refine Calls.quiet_of_same (has_at b 3 (some ⟨g, 0, none⟩) ps.length gc _ _ ?_); simpa using h31))
  obtain ⟨W2, hW2⟩ : ∃ W2, W1.drewN nq = W2 := ⟨_, rfl⟩
  have hB2 : Below w.heap.size w W2 := by rw [← hW2]; exact below_drewN hB1 _
  have l0 : W2.cell? ⟨w.heap.size, 0, none⟩ = some (I64 x.v) := by rw [← hW2]; simpa using k0
  have l1 : W2.cell? ⟨w.heap.size, 1, none⟩ = some (I64 x.s) := by rw [← hW2]; simpa using k1
  have l2 : W2.cell? ⟨w.heap.size, 2, none⟩ = some (I64 x.t) := by rw [← hW2]; simpa using k2
  rw [hW2]
  clear hW2 nq hA1 h31 k0 k1 k2 hB1
  have hz2 : w.heap.size < W2.heap.size := World.block_lt_of_cell? W2 _ l1
  have ht0 : 0 ≤ x.t ∧ x.t.toNat < ps.length := by simp [hasB] at ht; omega
  go_wp2
  have hA2 : TreeAt W2.drew b 3 g gc ps := hA.below hB2.drew hbl (hA.lt_g hT.1)
  go_region_held3 (fun w' => Below (w.heap.size + 1) W2 w' ∧ w'.cell? ⟨w.heap.size, 1, none⟩ = some (I64 x.s) ∧ w'.cell? ⟨w.heap.size, 2, none⟩ = some (I64 x.t))
    (first | (refine ⟨by assumption, by assumption, by assumption⟩) | (refine ⟨Below.drew (Below.refl _ _), ?_, ?_⟩ <;> simpa))
    ((go_at_call 112; refine (isAhead_at b 3 g gc ps hT _ _ ht0.1 ht0.2 _ hA2).mono ?_; rintro e w3 ⟨rfl, hB3⟩; rw [ha]
      have e0 : Below (w.heap.size + 1) W2 w3 := (Below.drew (Below.refl _ _)).trans (hB3.mono (by simp; omega))
      have e1 : w3.cell? ⟨w.heap.size, 1, none⟩ = some (I64 x.s) := (e0.cell (p := ⟨w.heap.size, 1, none⟩) (by simp)).trans l1
      have e2 : w3.cell? ⟨w.heap.size, 2, none⟩ = some (I64 x.t) := (e0.cell (p := ⟨w.heap.size, 2, none⟩) (by simp)).trans l2))
  have e00 : w3.cell? ⟨w.heap.size, 0, none⟩ = some (I64 x.v) := (e0.cell (p := ⟨w.heap.size, 0, none⟩) (by simp)).trans l0
  have hB4 : Below w.heap.size w w3 := hB2.trans (e0.mono (by omega))
  have h44 : w3.cell? ⟨b, 4, none⟩ = some vv := (hB4.cell (p := ⟨b, 4, none⟩) hbl).trans h4
  have hvc4 : VRow w3.drew vv vs := hvc.below hB4.drew
  clear l0 l1 l2 hA2 hB2 hB3 e0
  go_wp2
  go_region_held3 (fun w' => Below w.heap.size w w' ∧ w'.cell? ⟨w.heap.size, 0, none⟩ = some (I64 x.v) ∧ w'.cell? ⟨w.heap.size, 1, none⟩ = some (I64 x.s) ∧ w'.cell? ⟨w.heap.size, 2, none⟩ = some (I64 x.t) ∧ w'.cell? ⟨b, 4, none⟩ = some vv)
    (first | (refine ⟨by assumption, by assumption, by assumption, by assumption, by assumption⟩) | (refine ⟨Below.drew hB4, ?_, ?_, ?_, ?_⟩ <;> simpa))
    ((go_at_call 113; refine (contains_any vv vs x _ hlen hvc4).mono ?_; rintro e w5 ⟨rfl, hB5⟩; rw [hany]
      have hz5 : w.heap.size < w3.drew.heap.size := World.block_lt_of_cell? w3 _ e1
      have hz6 : b < w3.drew.heap.size := World.block_lt_of_cell? w3 _ h44
      have f0 : Below w.heap.size w w5 := hB4.drew.trans (hB5.mono (by omega))
      have f1 : w5.cell? ⟨w.heap.size, 0, none⟩ = some (I64 x.v) := (hB5.cell (p := ⟨w.heap.size, 0, none⟩) hz5).trans e00
      have f2 : w5.cell? ⟨w.heap.size, 1, none⟩ = some (I64 x.s) := (hB5.cell (p := ⟨w.heap.size, 1, none⟩) hz5).trans e1
      have f3 : w5.cell? ⟨w.heap.size, 2, none⟩ = some (I64 x.t) := (hB5.cell (p := ⟨w.heap.size, 2, none⟩) hz5).trans e2
      have f4 : w5.cell? ⟨b, 4, none⟩ = some vv := (hB5.cell (p := ⟨b, 4, none⟩) hz6).trans h44))
  go_wp2
  go_ret
  exact ⟨rfl, f0⟩

set_option maxHeartbeats 1000000 in
theorem fault0 (b nw : Nat) (ps : List Int) (vs : List Vt) (wp : Option Addr) (wc g gc : Nat) (vv : Value) (x : Vt) (w : World) (h : FaultAt w b nw ps vs wp wc g gc vv) (hv : hasB nw x.v = true) (hs : hasB ps.length x.s = true) (ht : hasB ps.length x.t = true) (ha : ahead ps x.s x.t = true) (hany : vs.any (fun y => x.is y) = false) :
    Calls Tryz.prog 89 #[.pointer (some ⟨b, 0, none⟩), x.val] w fun e w' => e = .returned (.int .i64 0) ∧ Below w.heap.size w w' := by
  obtain ⟨h2, hA, h4, hvc, hT, hlen⟩ := h
  have hbl := hA.lt_b
  go_enter Tryz.func89, Tryz.ntmps89
  go_wp2
  go_quiet ((go_at_call 111; exact Calls.quiet_of_same (whas_at wp nw wc x.v _)))
  obtain ⟨W1, hW1⟩ : ∃ W1, (w.alloc (.cells #[I64 x.v, I64 x.s, I64 x.t] 47)).drewN nq = W1 := ⟨_, rfl⟩
  have hB1 : Below w.heap.size w W1 := by rw [← hW1]; exact below_drewN ((Below.refl _ _).alloc (Nat.le_refl _) _) _
  have k0 : W1.cell? ⟨w.heap.size, 0, none⟩ = some (I64 x.v) := by rw [← hW1]; simp [go_sem]
  have k1 : W1.cell? ⟨w.heap.size, 1, none⟩ = some (I64 x.s) := by rw [← hW1]; simp [go_sem]
  have k2 : W1.cell? ⟨w.heap.size, 2, none⟩ = some (I64 x.t) := by rw [← hW1]; simp [go_sem]
  rw [hW1]
  clear hW1 nq
  have hA1 := hA.below hB1 hbl (hA.lt_g hT.1)
  have h31 := hA1.pv
  go_wp2
  go_quiet ((go_at_call 86; refine Calls.quiet_of_same (has_at b 3 (some ⟨g, 0, none⟩) ps.length gc _ _ ?_); simpa using h31))
  obtain ⟨W2, hW2⟩ : ∃ W2, W1.drewN nq = W2 := ⟨_, rfl⟩
  have hB2 : Below w.heap.size w W2 := by rw [← hW2]; exact below_drewN hB1 _
  have l0 : W2.cell? ⟨w.heap.size, 0, none⟩ = some (I64 x.v) := by rw [← hW2]; simpa using k0
  have l1 : W2.cell? ⟨w.heap.size, 1, none⟩ = some (I64 x.s) := by rw [← hW2]; simpa using k1
  have l2 : W2.cell? ⟨w.heap.size, 2, none⟩ = some (I64 x.t) := by rw [← hW2]; simpa using k2
  rw [hW2]
  clear hW2 nq hA1 h31 k0 k1 k2 hB1
  have hz2 : w.heap.size < W2.heap.size := World.block_lt_of_cell? W2 _ l1
  have ht0 : 0 ≤ x.t ∧ x.t.toNat < ps.length := by simp [hasB] at ht; omega
  go_wp2
  have hA2 : TreeAt W2.drew b 3 g gc ps := hA.below hB2.drew hbl (hA.lt_g hT.1)
  go_region_held3 (fun w' => Below (w.heap.size + 1) W2 w' ∧ w'.cell? ⟨w.heap.size, 1, none⟩ = some (I64 x.s) ∧ w'.cell? ⟨w.heap.size, 2, none⟩ = some (I64 x.t))
    (first | (refine ⟨by assumption, by assumption, by assumption⟩) | (refine ⟨Below.drew (Below.refl _ _), ?_, ?_⟩ <;> simpa))
    ((go_at_call 112; refine (isAhead_at b 3 g gc ps hT _ _ ht0.1 ht0.2 _ hA2).mono ?_; rintro e w3 ⟨rfl, hB3⟩; rw [ha]
      have e0 : Below (w.heap.size + 1) W2 w3 := (Below.drew (Below.refl _ _)).trans (hB3.mono (by simp; omega))
      have e1 : w3.cell? ⟨w.heap.size, 1, none⟩ = some (I64 x.s) := (e0.cell (p := ⟨w.heap.size, 1, none⟩) (by simp)).trans l1
      have e2 : w3.cell? ⟨w.heap.size, 2, none⟩ = some (I64 x.t) := (e0.cell (p := ⟨w.heap.size, 2, none⟩) (by simp)).trans l2))
  have e00 : w3.cell? ⟨w.heap.size, 0, none⟩ = some (I64 x.v) := (e0.cell (p := ⟨w.heap.size, 0, none⟩) (by simp)).trans l0
  have hB4 : Below w.heap.size w w3 := hB2.trans (e0.mono (by omega))
  have h44 : w3.cell? ⟨b, 4, none⟩ = some vv := (hB4.cell (p := ⟨b, 4, none⟩) hbl).trans h4
  have hvc4 : VRow w3.drew vv vs := hvc.below hB4.drew
  clear l0 l1 l2 hA2 hB2 hB3 e0
  go_wp2
  go_region_held3 (fun w' => Below w.heap.size w w' ∧ w'.cell? ⟨w.heap.size, 0, none⟩ = some (I64 x.v) ∧ w'.cell? ⟨w.heap.size, 1, none⟩ = some (I64 x.s) ∧ w'.cell? ⟨w.heap.size, 2, none⟩ = some (I64 x.t) ∧ w'.cell? ⟨b, 4, none⟩ = some vv)
    (first | (refine ⟨by assumption, by assumption, by assumption, by assumption, by assumption⟩) | (refine ⟨Below.drew hB4, ?_, ?_, ?_, ?_⟩ <;> simpa))
    ((go_at_call 113; refine (contains_any vv vs x _ hlen hvc4).mono ?_; rintro e w5 ⟨rfl, hB5⟩; rw [hany]
      have hz5 : w.heap.size < w3.drew.heap.size := World.block_lt_of_cell? w3 _ e1
      have hz6 : b < w3.drew.heap.size := World.block_lt_of_cell? w3 _ h44
      have f0 : Below w.heap.size w w5 := hB4.drew.trans (hB5.mono (by omega))
      have f1 : w5.cell? ⟨w.heap.size, 0, none⟩ = some (I64 x.v) := (hB5.cell (p := ⟨w.heap.size, 0, none⟩) hz5).trans e00
      have f2 : w5.cell? ⟨w.heap.size, 1, none⟩ = some (I64 x.s) := (hB5.cell (p := ⟨w.heap.size, 1, none⟩) hz5).trans e1
      have f3 : w5.cell? ⟨w.heap.size, 2, none⟩ = some (I64 x.t) := (hB5.cell (p := ⟨w.heap.size, 2, none⟩) hz5).trans e2
      have f4 : w5.cell? ⟨b, 4, none⟩ = some vv := (hB5.cell (p := ⟨b, 4, none⟩) hz6).trans h44))
  go_wp2
  go_ret
  exact ⟨rfl, f0⟩

/-- faultOf tells what speaks against a vote, and turns nothing. -/
theorem faultOf_at (b nw : Nat) (ps : List Int) (vs : List Vt) (wp : Option Addr) (wc g gc : Nat) (vv : Value) (x : Vt) (w : World) (h : FaultAt w b nw ps vs wp wc g gc vv) :
    Calls Tryz.prog 89 #[.pointer (some ⟨b, 0, none⟩), x.val] w fun e w' => e = .returned (.int .i64 (fault nw ps vs x)) ∧ Below w.heap.size w w' := by
  unfold fault
  cases hv : hasB nw x.v
  · simpa using fault3 b nw ps vs wp wc g gc vv x w h hv
  cases hs : hasB ps.length x.s
  · simpa using fault4s b nw ps vs wp wc g gc vv x w h hv hs
  cases ht : hasB ps.length x.t
  · simpa using fault4t b nw ps vs wp wc g gc vv x w h hv hs ht
  cases ha : ahead ps x.s x.t
  · simpa using fault5 b nw ps vs wp wc g gc vv x w h hv hs ht ha
  cases hany : vs.any (fun y => x.is y)
  · simpa using fault0 b nw ps vs wp wc g gc vv x w h hv hs ht ha hany
  · simpa using fault6 b nw ps vs wp wc g gc vv x w h hv hs ht ha hany
end Go.Proofs.YtgebcnnenhgkcaaGreat
