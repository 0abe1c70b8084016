/- What speaks against a vote: the program's faultOf. -/
import Derived.Test.YtgebcnnenhgkcaaIsAhead
import Derived.Test.YtgebcnnenhgkcaaVotesA
import Derived.Deep.RegionHeld3
import Derived.WalkSpells
namespace Go.Proofs.Ytgebcnnenhgkcaa
open Go.RowKit

theorem whas_at (p : Option Addr) (n c : Nat) (k : Int) (w : World) :
    Calls Try.prog 81 #[.slice p n c, .int .i64 k] w fun e w' => e = .returned (.bool (hasB n k)) ∧ w' = w := by
  by_cases h0 : 0 ≤ k
  all_goals
    go_enter Try.func81, Try.ntmps81
    go_wp2
    go_ret
    exact ⟨by simp [hasB]; omega, rfl⟩

/-- What speaks against a vote, whatever the number of votes. -/
def fault (nw : Nat) (ps : List Int) (vs : List Vt) (x : Vt) : Int :=
  if hasB nw x.v = false then 3 else if hasB ps.length x.s = false ∨ hasB ps.length x.t = false then 4 else if ahead ps x.s x.t = false then 5 else if vs.any (fun y => x.is y) = true then 6 else 0

/-- A list of votes as a slice: nil, or a row of its own. -/
def VRow (w : World) (vv : Value) (vs : List Vt) : Prop := ((∃ p c, vv = .slice p 0 c) ∧ vs = []) ∨ ∃ gv cap, vv = .slice (some ⟨gv, 0, none⟩) vs.length cap ∧ 0 < vs.length ∧ VCells w gv vs
theorem VRow.below {w w' : World} {vv : Value} {vs : List Vt} (h : VRow w vv vs) (hB : Below w.heap.size w w') : VRow w' vv vs := by
  rcases h with h | ⟨gv, cap, h1, h2, h3⟩
  · exact .inl h
  · exact .inr ⟨gv, cap, h1, h2, h3.below hB (h3.lt h2)⟩
theorem contains_any (vv : Value) (vs : List Vt) (x : Vt) (w : World) (hlen : vs.length ≤ 301) (h : VRow w vv vs) :
    Calls Try.prog 83 #[vv, x.val] w fun e w' =>
      e = .returned (.bool (vs.any (fun y => x.is y))) ∧ Below w.heap.size w w' := by
  rcases h with ⟨⟨p, c, rfl⟩, rfl⟩ | ⟨gv, cap, rfl, h2, h3⟩
  · exact contains_nil p c x w
  · exact contains_at gv cap vs x w hlen h3 h2

/-- What faultOf asks of memory. -/
structure FaultAt (w : World) (b : Nat) (nw : Nat) (ps : List Int) (vs : List Vt) (wp : Option Addr) (wc g gc : Nat) (vv : Value) : Prop where
  c2 : w.cell? ⟨b, 2, none⟩ = some (.slice wp nw wc)
  tree : TreeAt w b 3 g gc ps
  c4 : w.cell? ⟨b, 4, none⟩ = some vv
  vc : VRow w vv vs
  T : Tree ps
  len : vs.length ≤ 301

set_option maxHeartbeats 1000000 in
theorem fault3 (b nw : Nat) (ps : List Int) (vs : List Vt) (wp : Option Addr) (wc g gc : Nat) (vv : Value) (x : Vt) (w : World) (h : FaultAt w b nw ps vs wp wc g gc vv) (hv : hasB nw x.v = false) :
    Calls Try.prog 64 #[.pointer (some ⟨b, 0, none⟩), x.val] w fun e w' => e = .returned (.int .i64 3) ∧ Below w.heap.size w w' := by
  obtain ⟨h2, hA, h4, hvc, hT, hlen⟩ := h
  have hbl := hA.lt_b
  go_enter Try.func64, Try.ntmps64
  go_wp2
  go_quiet ((go_at_call 81; exact Calls.quiet_of_same (whas_at wp nw wc x.v _)))
  go_wp2
  go_ret
  exact ⟨rfl, below_drewN ((Below.refl _ _).alloc (Nat.le_refl _) _) _⟩

set_option maxHeartbeats 1000000 in
theorem fault4s (b nw : Nat) (ps : List Int) (vs : List Vt) (wp : Option Addr) (wc g gc : Nat) (vv : Value) (x : Vt) (w : World) (h : FaultAt w b nw ps vs wp wc g gc vv) (hv : hasB nw x.v = true) (hs : hasB ps.length x.s = false) :
    Calls Try.prog 64 #[.pointer (some ⟨b, 0, none⟩), x.val] w fun e w' => e = .returned (.int .i64 4) ∧ Below w.heap.size w w' := by
  obtain ⟨h2, hA, h4, hvc, hT, hlen⟩ := h
  have hbl := hA.lt_b
  go_enter Try.func64, Try.ntmps64
  go_wp2
  go_quiet ((go_at_call 81; exact Calls.quiet_of_same (whas_at wp nw wc x.v _)))
  obtain ⟨W1, hW1⟩ : ∃ W1, (w.alloc (.cells #[I64 x.v, I64 x.s, I64 x.t] 70)).drewN nq = W1 := ⟨_, rfl⟩
  have hB1 : Below w.heap.size w W1 := by rw [← hW1]; exact below_drewN ((Below.refl _ _).alloc (Nat.le_refl _) _) _
  have k0 : W1.cell? ⟨w.heap.size, 0, none⟩ = some (I64 x.v) := by rw [← hW1]; simp [go_sem]
  have k1 : W1.cell? ⟨w.heap.size, 1, none⟩ = some (I64 x.s) := by rw [← hW1]; simp [go_sem]
  have k2 : W1.cell? ⟨w.heap.size, 2, none⟩ = some (I64 x.t) := by rw [← hW1]; simp [go_sem]
  rw [hW1]
  clear hW1 nq
  have hA1 := hA.below hB1 hbl (hA.lt_g hT.1)
  have h31 := hA1.pv
  go_wp2
  go_quiet ((go_at_call 61; refine Calls.quiet_of_same (has_at b 3 (some ⟨g, 0, none⟩) ps.length gc _ _ ?_); simpa using h31))
  go_wp2
  go_ret
  exact ⟨rfl, below_drewN hB1 _⟩

set_option maxHeartbeats 1000000 in
theorem fault4t (b nw : Nat) (ps : List Int) (vs : List Vt) (wp : Option Addr) (wc g gc : Nat) (vv : Value) (x : Vt) (w : World) (h : FaultAt w b nw ps vs wp wc g gc vv) (hv : hasB nw x.v = true) (hs : hasB ps.length x.s = true) (ht : hasB ps.length x.t = false) :
    Calls Try.prog 64 #[.pointer (some ⟨b, 0, none⟩), x.val] w fun e w' => e = .returned (.int .i64 4) ∧ Below w.heap.size w w' := by
  obtain ⟨h2, hA, h4, hvc, hT, hlen⟩ := h
  have hbl := hA.lt_b
  go_enter Try.func64, Try.ntmps64
  go_wp2
  go_quiet ((go_at_call 81; exact Calls.quiet_of_same (whas_at wp nw wc x.v _)))
  obtain ⟨W1, hW1⟩ : ∃ W1, (w.alloc (.cells #[I64 x.v, I64 x.s, I64 x.t] 70)).drewN nq = W1 := ⟨_, rfl⟩
  have hB1 : Below w.heap.size w W1 := by rw [← hW1]; exact below_drewN ((Below.refl _ _).alloc (Nat.le_refl _) _) _
  have k0 : W1.cell? ⟨w.heap.size, 0, none⟩ = some (I64 x.v) := by rw [← hW1]; simp [go_sem]
  have k1 : W1.cell? ⟨w.heap.size, 1, none⟩ = some (I64 x.s) := by rw [← hW1]; simp [go_sem]
  have k2 : W1.cell? ⟨w.heap.size, 2, none⟩ = some (I64 x.t) := by rw [← hW1]; simp [go_sem]
  rw [hW1]
  clear hW1 nq
  have hA1 := hA.below hB1 hbl (hA.lt_g hT.1)
  have h31 := hA1.pv
  go_wp2
  go_quiet ((go_at_call 61; refine Calls.quiet_of_same (has_at b 3 (some ⟨g, 0, none⟩) ps.length gc _ _ ?_); simpa using h31))
  go_wp2
  go_ret
  exact ⟨rfl, below_drewN hB1 _⟩

set_option maxHeartbeats 1000000 in
theorem fault5 (b nw : Nat) (ps : List Int) (vs : List Vt) (wp : Option Addr) (wc g gc : Nat) (vv : Value) (x : Vt) (w : World) (h : FaultAt w b nw ps vs wp wc g gc vv) (hv : hasB nw x.v = true) (hs : hasB ps.length x.s = true) (ht : hasB ps.length x.t = true) (ha : ahead ps x.s x.t = false) :
    Calls Try.prog 64 #[.pointer (some ⟨b, 0, none⟩), x.val] w fun e w' => e = .returned (.int .i64 5) ∧ Below w.heap.size w w' := by
  obtain ⟨h2, hA, h4, hvc, hT, hlen⟩ := h
  have hbl := hA.lt_b
  go_enter Try.func64, Try.ntmps64
  go_wp2
  go_quiet ((go_at_call 81; exact Calls.quiet_of_same (whas_at wp nw wc x.v _)))
  obtain ⟨W1, hW1⟩ : ∃ W1, (w.alloc (.cells #[I64 x.v, I64 x.s, I64 x.t] 70)).drewN nq = W1 := ⟨_, rfl⟩
  have hB1 : Below w.heap.size w W1 := by rw [← hW1]; exact below_drewN ((Below.refl _ _).alloc (Nat.le_refl _) _) _
  have k0 : W1.cell? ⟨w.heap.size, 0, none⟩ = some (I64 x.v) := by rw [← hW1]; simp [go_sem]
  have k1 : W1.cell? ⟨w.heap.size, 1, none⟩ = some (I64 x.s) := by rw [← hW1]; simp [go_sem]
  have k2 : W1.cell? ⟨w.heap.size, 2, none⟩ = some (I64 x.t) := by rw [← hW1]; simp [go_sem]
  rw [hW1]
  clear hW1 nq
  have hA1 := hA.below hB1 hbl (hA.lt_g hT.1)
  have h31 := hA1.pv
  go_wp2
  go_quiet ((go_at_call 61; refine Calls.quiet_of_same (has_at b 3 (some ⟨g, 0, none⟩) ps.length gc _ _ ?_); simpa using h31))
  obtain ⟨W2, hW2⟩ : ∃ W2, W1.drewN nq = W2 := ⟨_, rfl⟩
  have hB2 : Below w.heap.size w W2 := by rw [← hW2]; exact below_drewN hB1 _
  have l0 : W2.cell? ⟨w.heap.size, 0, none⟩ = some (I64 x.v) := by rw [← hW2]; simpa using k0
  have l1 : W2.cell? ⟨w.heap.size, 1, none⟩ = some (I64 x.s) := by rw [← hW2]; simpa using k1
  have l2 : W2.cell? ⟨w.heap.size, 2, none⟩ = some (I64 x.t) := by rw [← hW2]; simpa using k2
  rw [hW2]
  clear hW2 nq hA1 h31 k0 k1 k2 hB1
  have hz2 : w.heap.size < W2.heap.size := World.block_lt_of_cell? W2 _ l1
  have ht0 : 0 ≤ x.t ∧ x.t.toNat < ps.length := by simp [hasB] at ht; omega
  go_wp2
  have hA2 : TreeAt W2.drew b 3 g gc ps := hA.below hB2.drew hbl (hA.lt_g hT.1)
  go_region_held3 (fun w' => Below (w.heap.size + 1) W2 w' ∧ w'.cell? ⟨w.heap.size, 1, none⟩ = some (I64 x.s) ∧ w'.cell? ⟨w.heap.size, 2, none⟩ = some (I64 x.t))
    (first | (refine ⟨by assumption, by assumption, by assumption⟩) | (refine ⟨Below.drew (Below.refl _ _), ?_, ?_⟩ <;> simpa))
    ((go_at_call 82; refine (isAhead_at b 3 g gc ps hT _ _ ht0.1 ht0.2 _ hA2).mono ?_; rintro e w3 ⟨rfl, hB3⟩; rw [ha]
      have e0 : Below (w.heap.size + 1) W2 w3 := (Below.drew (Below.refl _ _)).trans (hB3.mono (by simp; omega))
      have e1 : w3.cell? ⟨w.heap.size, 1, none⟩ = some (I64 x.s) := (e0.cell (p := ⟨w.heap.size, 1, none⟩) (by simp)).trans l1
      have e2 : w3.cell? ⟨w.heap.size, 2, none⟩ = some (I64 x.t) := (e0.cell (p := ⟨w.heap.size, 2, none⟩) (by simp)).trans l2))
  go_wp2
  go_ret
  exact ⟨rfl, hB2.trans (e0.mono (by omega))⟩

set_option maxHeartbeats 1000000 in
theorem fault6 (b nw : Nat) (ps : List Int) (vs : List Vt) (wp : Option Addr) (wc g gc : Nat) (vv : Value) (x : Vt) (w : World) (h : FaultAt w b nw ps vs wp wc g gc vv) (hv : hasB nw x.v = true) (hs : hasB ps.length x.s = true) (ht : hasB ps.length x.t = true) (ha : ahead ps x.s x.t = true) (hany : vs.any (fun y => x.is y) = true) :
    Calls Try.prog 64 #[.pointer (some ⟨b, 0, none⟩), x.val] w fun e w' => e = .returned (.int .i64 6) ∧ Below w.heap.size w w' := by
  obtain ⟨h2, hA, h4, hvc, hT, hlen⟩ := h
  have hbl := hA.lt_b
  go_enter Try.func64, Try.ntmps64
  go_wp2
  go_quiet ((go_at_call 81; exact Calls.quiet_of_same (whas_at wp nw wc x.v _)))
  obtain ⟨W1, hW1⟩ : ∃ W1, (w.alloc (.cells #[I64 x.v, I64 x.s, I64 x.t] 70)).drewN nq = W1 := ⟨_, rfl⟩
  have hB1 : Below w.heap.size w W1 := by rw [← hW1]; exact below_drewN ((Below.refl _ _).alloc (Nat.le_refl _) _) _
  have k0 : W1.cell? ⟨w.heap.size, 0, none⟩ = some (I64 x.v) := by rw [← hW1]; simp [go_sem]
  have k1 : W1.cell? ⟨w.heap.size, 1, none⟩ = some (I64 x.s) := by rw [← hW1]; simp [go_sem]
  have k2 : W1.cell? ⟨w.heap.size, 2, none⟩ = some (I64 x.t) := by rw [← hW1]; simp [go_sem]
  rw [hW1]
  clear hW1 nq
  have hA1 := hA.below hB1 hbl (hA.lt_g hT.1)
  have h31 := hA1.pv
  go_wp2
  go_quiet ((go_at_call 61; refine Calls.quiet_of_same (has_at b 3 (some ⟨g, 0, none⟩) ps.length gc _ _ ?_); simpa using h31))
  obtain ⟨W2, hW2⟩ : ∃ W2, W1.drewN nq = W2 := ⟨_, rfl⟩
  have hB2 : Below w.heap.size w W2 := by rw [← hW2]; exact below_drewN hB1 _
  have l0 : W2.cell? ⟨w.heap.size, 0, none⟩ = some (I64 x.v) := by rw [← hW2]; simpa using k0
  have l1 : W2.cell? ⟨w.heap.size, 1, none⟩ = some (I64 x.s) := by rw [← hW2]; simpa using k1
  have l2 : W2.cell? ⟨w.heap.size, 2, none⟩ = some (I64 x.t) := by rw [← hW2]; simpa using k2
  rw [hW2]
  clear hW2 nq hA1 h31 k0 k1 k2 hB1
  have hz2 : w.heap.size < W2.heap.size := World.block_lt_of_cell? W2 _ l1
  have ht0 : 0 ≤ x.t ∧ x.t.toNat < ps.length := by simp [hasB] at ht; omega
  go_wp2
  have hA2 : TreeAt W2.drew b 3 g gc ps := hA.below hB2.drew hbl (hA.lt_g hT.1)
  go_region_held3 (fun w' => Below (w.heap.size + 1) W2 w' ∧ w'.cell? ⟨w.heap.size, 1, none⟩ = some (I64 x.s) ∧ w'.cell? ⟨w.heap.size, 2, none⟩ = some (I64 x.t))
    (first | (refine ⟨by assumption, by assumption, by assumption⟩) | (refine ⟨Below.drew (Below.refl _ _), ?_, ?_⟩ <;> simpa))
    ((go_at_call 82; refine (isAhead_at b 3 g gc ps hT _ _ ht0.1 ht0.2 _ hA2).mono ?_; rintro e w3 ⟨rfl, hB3⟩; rw [ha]
      have e0 : Below (w.heap.size + 1) W2 w3 := (Below.drew (Below.refl _ _)).trans (hB3.mono (by simp; omega))
      have e1 : w3.cell? ⟨w.heap.size, 1, none⟩ = some (I64 x.s) := (e0.cell (p := ⟨w.heap.size, 1, none⟩) (by simp)).trans l1
      have e2 : w3.cell? ⟨w.heap.size, 2, none⟩ = some (I64 x.t) := (e0.cell (p := ⟨w.heap.size, 2, none⟩) (by simp)).trans l2))
  have e00 : w3.cell? ⟨w.heap.size, 0, none⟩ = some (I64 x.v) := (e0.cell (p := ⟨w.heap.size, 0, none⟩) (by simp)).trans l0
  have hB4 : Below w.heap.size w w3 := hB2.trans (e0.mono (by omega))
  have h44 : w3.cell? ⟨b, 4, none⟩ = some vv := (hB4.cell (p := ⟨b, 4, none⟩) hbl).trans h4
  have hvc4 : VRow w3.drew vv vs := hvc.below hB4.drew
  clear l0 l1 l2 hA2 hB2 hB3 e0
  go_wp2
  go_region_held3 (fun w' => Below w.heap.size w w' ∧ w'.cell? ⟨w.heap.size, 0, none⟩ = some (I64 x.v) ∧ w'.cell? ⟨w.heap.size, 1, none⟩ = some (I64 x.s) ∧ w'.cell? ⟨w.heap.size, 2, none⟩ = some (I64 x.t) ∧ w'.cell? ⟨b, 4, none⟩ = some vv)
    (first | (refine ⟨by assumption, by assumption, by assumption, by assumption, by assumption⟩) | (refine ⟨Below.drew hB4, ?_, ?_, ?_, ?_⟩ <;> simpa))
    ((go_at_call 83; refine (contains_any vv vs x _ hlen hvc4).mono ?_; rintro e w5 ⟨rfl, hB5⟩; rw [hany]
      have hz5 : w.heap.size < w3.drew.heap.size := World.block_lt_of_cell? w3 _ e1
      have hz6 : b < w3.drew.heap.size := World.block_lt_of_cell? w3 _ h44
      have f0 : Below w.heap.size w w5 := hB4.drew.trans (hB5.mono (by omega))
      have f1 : w5.cell? ⟨w.heap.size, 0, none⟩ = some (I64 x.v) := (hB5.cell (p := ⟨w.heap.size, 0, none⟩) hz5).trans e00
      have f2 : w5.cell? ⟨w.heap.size, 1, none⟩ = some (I64 x.s) := (hB5.cell (p := ⟨w.heap.size, 1, none⟩) hz5).trans e1
      have f3 : w5.cell? ⟨w.heap.size, 2, none⟩ = some (I64 x.t) := (hB5.cell (p := ⟨w.heap.size, 2, none⟩) hz5).trans e2
      have f4 : w5.cell? ⟨b, 4, none⟩ = some vv := (hB5.cell (p := ⟨b, 4, none⟩) hz6).trans h44))
  go_wp2
  go_ret
  exact ⟨rfl, f0⟩

set_option maxHeartbeats 1000000 in
theorem fault0 (b nw : Nat) (ps : List Int) (vs : List Vt) (wp : Option Addr) (wc g gc : Nat) (vv : Value) (x : Vt) (w : World) (h : FaultAt w b nw ps vs wp wc g gc vv) (hv : hasB nw x.v = true) (hs : hasB ps.length x.s = true) (ht : hasB ps.length x.t = true) (ha : ahead ps x.s x.t = true) (hany : vs.any (fun y => x.is y) = false) :
    Calls Try.prog 64 #[.pointer (some ⟨b, 0, none⟩), x.val] w fun e w' => e = .returned (.int .i64 0) ∧ Below w.heap.size w w' := by
  obtain ⟨h2, hA, h4, hvc, hT, hlen⟩ := h
  have hbl := hA.lt_b
  go_enter Try.func64, Try.ntmps64
  go_wp2
  go_quiet ((go_at_call 81; exact Calls.quiet_of_same (whas_at wp nw wc x.v _)))
  obtain ⟨W1, hW1⟩ : ∃ W1, (w.alloc (.cells #[I64 x.v, I64 x.s, I64 x.t] 70)).drewN nq = W1 := ⟨_, rfl⟩
  have hB1 : Below w.heap.size w W1 := by rw [← hW1]; exact below_drewN ((Below.refl _ _).alloc (Nat.le_refl _) _) _
  have k0 : W1.cell? ⟨w.heap.size, 0, none⟩ = some (I64 x.v) := by rw [← hW1]; simp [go_sem]
  have k1 : W1.cell? ⟨w.heap.size, 1, none⟩ = some (I64 x.s) := by rw [← hW1]; simp [go_sem]
  have k2 : W1.cell? ⟨w.heap.size, 2, none⟩ = some (I64 x.t) := by rw [← hW1]; simp [go_sem]
  rw [hW1]
  clear hW1 nq
  have hA1 := hA.below hB1 hbl (hA.lt_g hT.1)
  have h31 := hA1.pv
  go_wp2
  go_quiet ((go_at_call 61; refine Calls.quiet_of_same (has_at b 3 (some ⟨g, 0, none⟩) ps.length gc _ _ ?_); simpa using h31))
  obtain ⟨W2, hW2⟩ : ∃ W2, W1.drewN nq = W2 := ⟨_, rfl⟩
  have hB2 : Below w.heap.size w W2 := by rw [← hW2]; exact below_drewN hB1 _
  have l0 : W2.cell? ⟨w.heap.size, 0, none⟩ = some (I64 x.v) := by rw [← hW2]; simpa using k0
  have l1 : W2.cell? ⟨w.heap.size, 1, none⟩ = some (I64 x.s) := by rw [← hW2]; simpa using k1
  have l2 : W2.cell? ⟨w.heap.size, 2, none⟩ = some (I64 x.t) := by rw [← hW2]; simpa using k2
  rw [hW2]
  clear hW2 nq hA1 h31 k0 k1 k2 hB1
  have hz2 : w.heap.size < W2.heap.size := World.block_lt_of_cell? W2 _ l1
  have ht0 : 0 ≤ x.t ∧ x.t.toNat < ps.length := by simp [hasB] at ht; omega
  go_wp2
  have hA2 : TreeAt W2.drew b 3 g gc ps := hA.below hB2.drew hbl (hA.lt_g hT.1)
  go_region_held3 (fun w' => Below (w.heap.size + 1) W2 w' ∧ w'.cell? ⟨w.heap.size, 1, none⟩ = some (I64 x.s) ∧ w'.cell? ⟨w.heap.size, 2, none⟩ = some (I64 x.t))
    (first | (refine ⟨by assumption, by assumption, by assumption⟩) | (refine ⟨Below.drew (Below.refl _ _), ?_, ?_⟩ <;> simpa))
    ((go_at_call 82; refine (isAhead_at b 3 g gc ps hT _ _ ht0.1 ht0.2 _ hA2).mono ?_; rintro e w3 ⟨rfl, hB3⟩; rw [ha]
      have e0 : Below (w.heap.size + 1) W2 w3 := (Below.drew (Below.refl _ _)).trans (hB3.mono (by simp; omega))
      have e1 : w3.cell? ⟨w.heap.size, 1, none⟩ = some (I64 x.s) := (e0.cell (p := ⟨w.heap.size, 1, none⟩) (by simp)).trans l1
      have e2 : w3.cell? ⟨w.heap.size, 2, none⟩ = some (I64 x.t) := (e0.cell (p := ⟨w.heap.size, 2, none⟩) (by simp)).trans l2))
  have e00 : w3.cell? ⟨w.heap.size, 0, none⟩ = some (I64 x.v) := (e0.cell (p := ⟨w.heap.size, 0, none⟩) (by simp)).trans l0
  have hB4 : Below w.heap.size w w3 := hB2.trans (e0.mono (by omega))
  have h44 : w3.cell? ⟨b, 4, none⟩ = some vv := (hB4.cell (p := ⟨b, 4, none⟩) hbl).trans h4
  have hvc4 : VRow w3.drew vv vs := hvc.below hB4.drew
  clear l0 l1 l2 hA2 hB2 hB3 e0
  go_wp2
  go_region_held3 (fun w' => Below w.heap.size w w' ∧ w'.cell? ⟨w.heap.size, 0, none⟩ = some (I64 x.v) ∧ w'.cell? ⟨w.heap.size, 1, none⟩ = some (I64 x.s) ∧ w'.cell? ⟨w.heap.size, 2, none⟩ = some (I64 x.t) ∧ w'.cell? ⟨b, 4, none⟩ = some vv)
    (first | (refine ⟨by assumption, by assumption, by assumption, by assumption, by assumption⟩) | (refine ⟨Below.drew hB4, ?_, ?_, ?_, ?_⟩ <;> simpa))
    ((go_at_call 83; refine (contains_any vv vs x _ hlen hvc4).mono ?_; rintro e w5 ⟨rfl, hB5⟩; rw [hany]
      have hz5 : w.heap.size < w3.drew.heap.size := World.block_lt_of_cell? w3 _ e1
      have hz6 : b < w3.drew.heap.size := World.block_lt_of_cell? w3 _ h44
      have f0 : Below w.heap.size w w5 := hB4.drew.trans (hB5.mono (by omega))
      have f1 : w5.cell? ⟨w.heap.size, 0, none⟩ = some (I64 x.v) := (hB5.cell (p := ⟨w.heap.size, 0, none⟩) hz5).trans e00
      have f2 : w5.cell? ⟨w.heap.size, 1, none⟩ = some (I64 x.s) := (hB5.cell (p := ⟨w.heap.size, 1, none⟩) hz5).trans e1
      have f3 : w5.cell? ⟨w.heap.size, 2, none⟩ = some (I64 x.t) := (hB5.cell (p := ⟨w.heap.size, 2, none⟩) hz5).trans e2
      have f4 : w5.cell? ⟨b, 4, none⟩ = some vv := (hB5.cell (p := ⟨b, 4, none⟩) hz6).trans h44))
  go_wp2
  go_ret
  exact ⟨rfl, f0⟩

/-- faultOf tells what speaks against a vote, and turns nothing. -/
theorem faultOf_at (b nw : Nat) (ps : List Int) (vs : List Vt) (wp : Option Addr) (wc g gc : Nat) (vv : Value) (x : Vt) (w : World) (h : FaultAt w b nw ps vs wp wc g gc vv) :
    Calls Try.prog 64 #[.pointer (some ⟨b, 0, none⟩), x.val] w fun e w' => e = .returned (.int .i64 (fault nw ps vs x)) ∧ Below w.heap.size w w' := by
  unfold fault
  cases hv : hasB nw x.v
  · simpa using fault3 b nw ps vs wp wc g gc vv x w h hv
  cases hs : hasB ps.length x.s
  · simpa using fault4s b nw ps vs wp wc g gc vv x w h hv hs
  cases ht : hasB ps.length x.t
  · simpa using fault4t b nw ps vs wp wc g gc vv x w h hv hs ht
  cases ha : ahead ps x.s x.t
  · simpa using fault5 b nw ps vs wp wc g gc vv x w h hv hs ht ha
  cases hany : vs.any (fun y => x.is y)
  · simpa using fault0 b nw ps vs wp wc g gc vv x w h hv hs ht ha hany
  · simpa using fault6 b nw ps vs wp wc g gc vv x w h hv hs ht ha hany
end Go.Proofs.Ytgebcnnenhgkcaa
