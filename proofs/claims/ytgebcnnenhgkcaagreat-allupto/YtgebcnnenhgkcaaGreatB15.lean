/- The document's own Vote. -/
import Derived.Test.YtgebcnnenhgkcaaGreatB14
import Derived.Test.YtgebcnnenhgkcaaGreatB06
namespace Go.Proofs.YtgebcnnenhgkcaaGreat
open Go.RowKit

set_option maxRecDepth 100000 in
set_option maxHeartbeats 1000000 in
theorem refVote_v0 (b : Nat) (S : Nat → Prop) (ws ps : List Int) (vs : List Vt) (wv pv vv : Value) (x : Vt) (w : World) (h : RefAt w b S ws ps vs wv pv vv) (hT : Tree ps) (hw : 0 < ws.length) (hv : x.v < 0) :
    Calls Tryz.prog 74 #[.pointer (some ⟨b, 0, none⟩), x.val] w fun e w' => e = .returned (.int .i64 3) ∧ Below w.heap.size w w' := by
  have hbl := h.lt b h.inb
  have h0 := h.c0
  have h1 := h.c1
  obtain ⟨gw, capw, rfl, _, _, _, _⟩ := row_open h.wrow hw
  obtain ⟨g0, cap0, rfl, _, _, hcs0, _⟩ := row_open h.prow hT.1
  have hlen : ps.length ≤ 40 := hT.2.1
  have d0 : decide (x.v < 0) = true := by simp; omega
  go_enter Tryz.func74, Tryz.ntmps74
  go_wp2
  go_quiet (fail)
  go_wp2
  go_ret
  exact ⟨rfl, below_drewN ((Below.refl _ _).alloc (Nat.le_refl _) _) _⟩

set_option maxRecDepth 100000 in
set_option maxHeartbeats 1000000 in
theorem refVote_v1 (b : Nat) (S : Nat → Prop) (ws ps : List Int) (vs : List Vt) (wv pv vv : Value) (x : Vt) (w : World) (h : RefAt w b S ws ps vs wv pv vv) (hT : Tree ps) (hw : 0 < ws.length) (hv : 0 ≤ x.v) (hv2 : (ws.length : Int) ≤ x.v) :
    Calls Tryz.prog 74 #[.pointer (some ⟨b, 0, none⟩), x.val] w fun e w' => e = .returned (.int .i64 3) ∧ Below w.heap.size w w' := by
  have hbl := h.lt b h.inb
  have h0 := h.c0
  have h1 := h.c1
  obtain ⟨gw, capw, rfl, _, _, _, _⟩ := row_open h.wrow hw
  obtain ⟨g0, cap0, rfl, _, _, hcs0, _⟩ := row_open h.prow hT.1
  have hlen : ps.length ≤ 40 := hT.2.1
  have d0 : decide (x.v < 0) = false := by simp; omega
  have d1 : decide ((ws.length : Int) ≤ x.v) = true := by simp; omega
  go_enter Tryz.func74, Tryz.ntmps74
  go_wp2
  go_quiet (fail)
  go_wp2
  go_ret
  exact ⟨rfl, below_drewN ((Below.refl _ _).alloc (Nat.le_refl _) _) _⟩

set_option maxRecDepth 100000 in
set_option maxHeartbeats 1000000 in
theorem refVote_s0 (b : Nat) (S : Nat → Prop) (ws ps : List Int) (vs : List Vt) (wv pv vv : Value) (x : Vt) (w : World) (h : RefAt w b S ws ps vs wv pv vv) (hT : Tree ps) (hw : 0 < ws.length) (hv0 : 0 ≤ x.v) (hv1 : x.v < ws.length) (hs : x.s < 0) :
    Calls Tryz.prog 74 #[.pointer (some ⟨b, 0, none⟩), x.val] w fun e w' => e = .returned (.int .i64 4) ∧ Below w.heap.size w w' := by
  have hbl := h.lt b h.inb
  have h0 := h.c0
  have h1 := h.c1
  obtain ⟨gw, capw, rfl, _, _, _, _⟩ := row_open h.wrow hw
  obtain ⟨g0, cap0, rfl, _, _, hcs0, _⟩ := row_open h.prow hT.1
  have hlen : ps.length ≤ 40 := hT.2.1
  have d0 : decide (x.v < 0) = false := by simp; omega
  have d1 : decide ((ws.length : Int) ≤ x.v) = false := by simp; omega
  have d2 : decide (x.s < 0) = true := by simp; omega
  go_enter Tryz.func74, Tryz.ntmps74
  go_wp2
  go_quiet (fail)
  obtain ⟨W1, hW1⟩ : ∃ W1, (w.alloc (.cells #[I64 x.v, I64 x.s, I64 x.t] 47)).drewN nq = W1 := ⟨_, rfl⟩
  have hB1 : Below w.heap.size w W1 := by rw [← hW1]; exact below_drewN ((Below.refl _ _).alloc (Nat.le_refl _) _) _
  have k0 : W1.cell? ⟨w.heap.size, 0, none⟩ = some (I64 x.v) := by rw [← hW1]; simp [go_sem]
  have k1 : W1.cell? ⟨w.heap.size, 1, none⟩ = some (I64 x.s) := by rw [← hW1]; simp [go_sem]
  have k2 : W1.cell? ⟨w.heap.size, 2, none⟩ = some (I64 x.t) := by rw [← hW1]; simp [go_sem]
  rw [hW1]
  clear hW1 nq
  have h11 : W1.cell? ⟨b, 1, none⟩ = some (.slice (some ⟨g0, 0, none⟩) ps.length cap0) := (hB1.cell (p := ⟨b, 1, none⟩) hbl).trans h1
  go_wp2
  go_quiet (fail)
  go_wp2
  go_ret
  exact ⟨rfl, below_drewN hB1 _⟩

set_option maxRecDepth 100000 in
set_option maxHeartbeats 1000000 in
theorem refVote_s1 (b : Nat) (S : Nat → Prop) (ws ps : List Int) (vs : List Vt) (wv pv vv : Value) (x : Vt) (w : World) (h : RefAt w b S ws ps vs wv pv vv) (hT : Tree ps) (hw : 0 < ws.length) (hv0 : 0 ≤ x.v) (hv1 : x.v < ws.length) (hs : 0 ≤ x.s) (hs2 : (ps.length : Int) ≤ x.s) :
    Calls Tryz.prog 74 #[.pointer (some ⟨b, 0, none⟩), x.val] w fun e w' => e = .returned (.int .i64 4) ∧ Below w.heap.size w w' := by
  have hbl := h.lt b h.inb
  have h0 := h.c0
  have h1 := h.c1
  obtain ⟨gw, capw, rfl, _, _, _, _⟩ := row_open h.wrow hw
  obtain ⟨g0, cap0, rfl, _, _, hcs0, _⟩ := row_open h.prow hT.1
  have hlen : ps.length ≤ 40 := hT.2.1
  have d0 : decide (x.v < 0) = false := by simp; omega
  have d1 : decide ((ws.length : Int) ≤ x.v) = false := by simp; omega
  have d2 : decide (x.s < 0) = false := by simp; omega
  have d3 : decide ((ps.length : Int) ≤ x.s) = true := by simp; omega
  go_enter Tryz.func74, Tryz.ntmps74
  go_wp2
  go_quiet (fail)
  obtain ⟨W1, hW1⟩ : ∃ W1, (w.alloc (.cells #[I64 x.v, I64 x.s, I64 x.t] 47)).drewN nq = W1 := ⟨_, rfl⟩
  have hB1 : Below w.heap.size w W1 := by rw [← hW1]; exact below_drewN ((Below.refl _ _).alloc (Nat.le_refl _) _) _
  have k0 : W1.cell? ⟨w.heap.size, 0, none⟩ = some (I64 x.v) := by rw [← hW1]; simp [go_sem]
  have k1 : W1.cell? ⟨w.heap.size, 1, none⟩ = some (I64 x.s) := by rw [← hW1]; simp [go_sem]
  have k2 : W1.cell? ⟨w.heap.size, 2, none⟩ = some (I64 x.t) := by rw [← hW1]; simp [go_sem]
  rw [hW1]
  clear hW1 nq
  have h11 : W1.cell? ⟨b, 1, none⟩ = some (.slice (some ⟨g0, 0, none⟩) ps.length cap0) := (hB1.cell (p := ⟨b, 1, none⟩) hbl).trans h1
  go_wp2
  go_quiet (fail)
  go_wp2
  go_ret
  exact ⟨rfl, below_drewN hB1 _⟩

set_option maxRecDepth 100000 in
set_option maxHeartbeats 1000000 in
theorem refVote_t0 (b : Nat) (S : Nat → Prop) (ws ps : List Int) (vs : List Vt) (wv pv vv : Value) (x : Vt) (w : World) (h : RefAt w b S ws ps vs wv pv vv) (hT : Tree ps) (hw : 0 < ws.length) (hv0 : 0 ≤ x.v) (hv1 : x.v < ws.length) (hs0 : 0 ≤ x.s) (hs1 : x.s < ps.length) (ht : x.t < 0) :
    Calls Tryz.prog 74 #[.pointer (some ⟨b, 0, none⟩), x.val] w fun e w' => e = .returned (.int .i64 4) ∧ Below w.heap.size w w' := by
  have hbl := h.lt b h.inb
  have h0 := h.c0
  have h1 := h.c1
  obtain ⟨gw, capw, rfl, _, _, _, _⟩ := row_open h.wrow hw
  obtain ⟨g0, cap0, rfl, _, _, hcs0, _⟩ := row_open h.prow hT.1
  have hlen : ps.length ≤ 40 := hT.2.1
  have d0 : decide (x.v < 0) = false := by simp; omega
  have d1 : decide ((ws.length : Int) ≤ x.v) = false := by simp; omega
  have d2 : decide (x.s < 0) = false := by simp; omega
  have d3 : decide ((ps.length : Int) ≤ x.s) = false := by simp; omega
  have d4 : decide (x.t < 0) = true := by simp; omega
  go_enter Tryz.func74, Tryz.ntmps74
  go_wp2
  go_quiet (fail)
  obtain ⟨W1, hW1⟩ : ∃ W1, (w.alloc (.cells #[I64 x.v, I64 x.s, I64 x.t] 47)).drewN nq = W1 := ⟨_, rfl⟩
  have hB1 : Below w.heap.size w W1 := by rw [← hW1]; exact below_drewN ((Below.refl _ _).alloc (Nat.le_refl _) _) _
  have k0 : W1.cell? ⟨w.heap.size, 0, none⟩ = some (I64 x.v) := by rw [← hW1]; simp [go_sem]
  have k1 : W1.cell? ⟨w.heap.size, 1, none⟩ = some (I64 x.s) := by rw [← hW1]; simp [go_sem]
  have k2 : W1.cell? ⟨w.heap.size, 2, none⟩ = some (I64 x.t) := by rw [← hW1]; simp [go_sem]
  rw [hW1]
  clear hW1 nq
  have h11 : W1.cell? ⟨b, 1, none⟩ = some (.slice (some ⟨g0, 0, none⟩) ps.length cap0) := (hB1.cell (p := ⟨b, 1, none⟩) hbl).trans h1
  go_wp2
  go_quiet (fail)
  go_wp2
  go_ret
  exact ⟨rfl, below_drewN hB1 _⟩

set_option maxRecDepth 100000 in
set_option maxHeartbeats 1000000 in
theorem refVote_t1 (b : Nat) (S : Nat → Prop) (ws ps : List Int) (vs : List Vt) (wv pv vv : Value) (x : Vt) (w : World) (h : RefAt w b S ws ps vs wv pv vv) (hT : Tree ps) (hw : 0 < ws.length) (hv0 : 0 ≤ x.v) (hv1 : x.v < ws.length) (hs0 : 0 ≤ x.s) (hs1 : x.s < ps.length) (ht : 0 ≤ x.t) (ht2 : (ps.length : Int) ≤ x.t) :
    Calls Tryz.prog 74 #[.pointer (some ⟨b, 0, none⟩), x.val] w fun e w' => e = .returned (.int .i64 4) ∧ Below w.heap.size w w' := by
  have hbl := h.lt b h.inb
  have h0 := h.c0
  have h1 := h.c1
  obtain ⟨gw, capw, rfl, _, _, _, _⟩ := row_open h.wrow hw
  obtain ⟨g0, cap0, rfl, _, _, hcs0, _⟩ := row_open h.prow hT.1
  have hlen : ps.length ≤ 40 := hT.2.1
  have d0 : decide (x.v < 0) = false := by simp; omega
  have d1 : decide ((ws.length : Int) ≤ x.v) = false := by simp; omega
  have d2 : decide (x.s < 0) = false := by simp; omega
  have d3 : decide ((ps.length : Int) ≤ x.s) = false := by simp; omega
  have d4 : decide (x.t < 0) = false := by simp; omega
  have d5 : decide ((ps.length : Int) ≤ x.t) = true := by simp; omega
  go_enter Tryz.func74, Tryz.ntmps74
  go_wp2
  go_quiet (fail)
  obtain ⟨W1, hW1⟩ : ∃ W1, (w.alloc (.cells #[I64 x.v, I64 x.s, I64 x.t] 47)).drewN nq = W1 := ⟨_, rfl⟩
  have hB1 : Below w.heap.size w W1 := by rw [← hW1]; exact below_drewN ((Below.refl _ _).alloc (Nat.le_refl _) _) _
  have k0 : W1.cell? ⟨w.heap.size, 0, none⟩ = some (I64 x.v) := by rw [← hW1]; simp [go_sem]
  have k1 : W1.cell? ⟨w.heap.size, 1, none⟩ = some (I64 x.s) := by rw [← hW1]; simp [go_sem]
  have k2 : W1.cell? ⟨w.heap.size, 2, none⟩ = some (I64 x.t) := by rw [← hW1]; simp [go_sem]
  rw [hW1]
  clear hW1 nq
  have h11 : W1.cell? ⟨b, 1, none⟩ = some (.slice (some ⟨g0, 0, none⟩) ps.length cap0) := (hB1.cell (p := ⟨b, 1, none⟩) hbl).trans h1
  go_wp2
  go_quiet (fail)
  go_wp2
  go_ret
  exact ⟨rfl, below_drewN hB1 _⟩

end Go.Proofs.YtgebcnnenhgkcaaGreat
/- The document's own Vote, where voter and blocks are there. -/
namespace Go.Proofs.YtgebcnnenhgkcaaGreat
open Go.RowKit

set_option maxRecDepth 100000 in
set_option maxHeartbeats 1000000 in
theorem refVote_5 (b : Nat) (S : Nat → Prop) (ws ps : List Int) (vs : List Vt) (wv pv vv : Value) (x : Vt) (w : World) (h : RefAt w b S ws ps vs wv pv vv) (hT : Tree ps) (hw : 0 < ws.length) (hv0 : 0 ≤ x.v) (hv1 : x.v < ws.length) (hs0 : 0 ≤ x.s) (hs1 : x.s < ps.length) (ht0 : 0 ≤ x.t) (ht1 : x.t < ps.length) (ha : ahead ps x.s x.t = false) :
    Calls Tryz.prog 74 #[.pointer (some ⟨b, 0, none⟩), x.val] w fun e w' => e = .returned (.int .i64 5) ∧ Below w.heap.size w w' := by
  have hbl := h.lt b h.inb
  have h0 := h.c0
  have h1 := h.c1
  obtain ⟨gw, capw, rfl, _, _, _, _⟩ := row_open h.wrow hw
  obtain ⟨g0, cap0, rfl, _, _, hcs0, _⟩ := row_open h.prow hT.1
  have hlen : ps.length ≤ 40 := hT.2.1
  have d0 : decide (x.v < 0) = false := by simp; omega
  have d1 : decide ((ws.length : Int) ≤ x.v) = false := by simp; omega
  have d2 : decide (x.s < 0) = false := by simp; omega
  have d3 : decide ((ps.length : Int) ≤ x.s) = false := by simp; omega
  have d4 : decide (x.t < 0) = false := by simp; omega
  have d5 : decide ((ps.length : Int) ≤ x.t) = false := by simp; omega
  go_enter Tryz.func74, Tryz.ntmps74
  go_wp2
  go_quiet (fail)
  obtain ⟨W1, hW1⟩ : ∃ W1, (w.alloc (.cells #[I64 x.v, I64 x.s, I64 x.t] 47)).drewN nq = W1 := ⟨_, rfl⟩
  have hB1 : Below w.heap.size w W1 := by rw [← hW1]; exact below_drewN ((Below.refl _ _).alloc (Nat.le_refl _) _) _
  have k0 : W1.cell? ⟨w.heap.size, 0, none⟩ = some (I64 x.v) := by rw [← hW1]; simp [go_sem]
  have k1 : W1.cell? ⟨w.heap.size, 1, none⟩ = some (I64 x.s) := by rw [← hW1]; simp [go_sem]
  have k2 : W1.cell? ⟨w.heap.size, 2, none⟩ = some (I64 x.t) := by rw [← hW1]; simp [go_sem]
  rw [hW1]
  clear hW1 nq
  have h11 : W1.cell? ⟨b, 1, none⟩ = some (.slice (some ⟨g0, 0, none⟩) ps.length cap0) := (hB1.cell (p := ⟨b, 1, none⟩) hbl).trans h1
  go_wp2
  go_quiet (fail)
  obtain ⟨W2, hW2⟩ : ∃ W2, W1.drewN nq = W2 := ⟨_, rfl⟩
  have hB2 : Below w.heap.size w W2 := by rw [← hW2]; exact below_drewN hB1 _
  have l0 : W2.cell? ⟨w.heap.size, 0, none⟩ = some (I64 x.v) := by rw [← hW2]; simpa using k0
  have l1 : W2.cell? ⟨w.heap.size, 1, none⟩ = some (I64 x.s) := by rw [← hW2]; simpa using k1
  have l2 : W2.cell? ⟨w.heap.size, 2, none⟩ = some (I64 x.t) := by rw [← hW2]; simpa using k2
  rw [hW2]
  clear hW2 nq h11 k0 k1 k2 hB1 d0 d1 d2 d3 d4 d5
  have hz2 : w.heap.size < W2.heap.size := World.block_lt_of_cell? W2 _ l1
  have hA2 : TreeAt W2 b 1 g0 cap0 ps := ⟨(hB2.cell (p := ⟨b, 1, none⟩) hbl).trans h1, fun j hj => (hB2.cell (p := ⟨g0, j, none⟩) (World.block_lt_of_cell? w _ (hcs0 j hj))).trans (hcs0 j hj)⟩
  go_wp2_with fail
  refine (refAhead_at b g0 cap0 ps hT _ _ ht0 (by omega) _ hA2).mono ?_
  rintro e w3 ⟨rfl, rfl⟩
  rw [ha]
  go_wp2
  go_ret
  exact ⟨rfl, hB2⟩

theorem cell_alloc {w : World} {a : Addr} {v : Value} (o : Obj) (h : w.cell? a = some v) : (w.alloc o).cell? a = some v := (Chg.alloc (Chg.refl (fun _ => False) w) o).cell h (fun hf => hf)

/-- Behind the look for the vote among those that were given. -/
def lastE (vs : List Vt) (x : Vt) : Int := if vs.any (fun y => x.is y) = true then 6 else manyE vs
def lastV (vs : List Vt) (x : Vt) : List Vt := if vs.any (fun y => x.is y) = true then vs else manyV vs x
theorem last_found {vs : List Vt} {x : Vt} (h : vs.any (fun y => x.is y) = true) : lastE vs x = 6 ∧ lastV vs x = vs := by simp [lastE, lastV, h]
theorem last_full {vs : List Vt} {x : Vt} (h : vs.any (fun y => x.is y) = false) (hf : 300 ≤ vs.length) : lastE vs x = 7 ∧ lastV vs x = vs := by simp [lastE, lastV, h, many_full x hf]
theorem last_room {vs : List Vt} {x : Vt} (h : vs.any (fun y => x.is y) = false) (hf : ¬ 300 ≤ vs.length) : lastE vs x = 0 ∧ lastV vs x = vs ++ [x] := by simp [lastE, lastV, h, many_room x hf]

set_option maxRecDepth 100000 in
set_option maxHeartbeats 8000000 in
theorem refVote_6 (b : Nat) (S : Nat → Prop) (ws ps : List Int) (vs : List Vt) (wv pv vv : Value) (x : Vt) (w : World) (h : RefAt w b S ws ps vs wv pv vv) (hT : Tree ps) (hw : 0 < ws.length) (hv0 : 0 ≤ x.v) (hv1 : x.v < ws.length) (hs0 : 0 ≤ x.s) (hs1 : x.s < ps.length) (ht0 : 0 ≤ x.t) (ht1 : x.t < ps.length) (ha : ahead ps x.s x.t = true) (hl : vs.length ≤ 300) :
    Calls Tryz.prog 74 #[.pointer (some ⟨b, 0, none⟩), x.val] w fun e w' => e = .returned (.int .i64 (lastE vs x)) ∧
      ∃ (S' : Nat → Prop) (vv' : Value), RefAt w' b S' ws ps (lastV vs x) wv pv vv' ∧ Chg S w w' ∧ (∀ k, S' k → S k ∨ w.heap.size ≤ k) := by
  have hbl := h.lt b h.inb
  have h0 := h.c0
  have h1 := h.c1
  obtain ⟨gw, capw, rfl, _, _, _, _⟩ := row_open h.wrow hw
  obtain ⟨g0, cap0, rfl, _, _, hcs0, _⟩ := row_open h.prow hT.1
  have hlen : ps.length ≤ 40 := hT.2.1
  have d0 : decide (x.v < 0) = false := by simp; omega
  have d1 : decide ((ws.length : Int) ≤ x.v) = false := by simp; omega
  have d2 : decide (x.s < 0) = false := by simp; omega
  have d3 : decide ((ps.length : Int) ≤ x.s) = false := by simp; omega
  have d4 : decide (x.t < 0) = false := by simp; omega
  have d5 : decide ((ps.length : Int) ≤ x.t) = false := by simp; omega
  go_enter Tryz.func74, Tryz.ntmps74
  go_wp2
  go_quiet (fail)
  obtain ⟨W1, hW1⟩ : ∃ W1, (w.alloc (.cells #[I64 x.v, I64 x.s, I64 x.t] 47)).drewN nq = W1 := ⟨_, rfl⟩
  have hB1 : Below w.heap.size w W1 := by rw [← hW1]; exact below_drewN ((Below.refl _ _).alloc (Nat.le_refl _) _) _
  have k0 : W1.cell? ⟨w.heap.size, 0, none⟩ = some (I64 x.v) := by rw [← hW1]; simp [go_sem]
  have k1 : W1.cell? ⟨w.heap.size, 1, none⟩ = some (I64 x.s) := by rw [← hW1]; simp [go_sem]
  have k2 : W1.cell? ⟨w.heap.size, 2, none⟩ = some (I64 x.t) := by rw [← hW1]; simp [go_sem]
  rw [hW1]
  clear hW1 nq
  have h11 : W1.cell? ⟨b, 1, none⟩ = some (.slice (some ⟨g0, 0, none⟩) ps.length cap0) := (hB1.cell (p := ⟨b, 1, none⟩) hbl).trans h1
  go_wp2
  go_quiet (fail)
  obtain ⟨W2, hW2⟩ : ∃ W2, W1.drewN nq = W2 := ⟨_, rfl⟩
  have hB2 : Below w.heap.size w W2 := by rw [← hW2]; exact below_drewN hB1 _
  have l0 : W2.cell? ⟨w.heap.size, 0, none⟩ = some (I64 x.v) := by rw [← hW2]; simpa using k0
  have l1 : W2.cell? ⟨w.heap.size, 1, none⟩ = some (I64 x.s) := by rw [← hW2]; simpa using k1
  have l2 : W2.cell? ⟨w.heap.size, 2, none⟩ = some (I64 x.t) := by rw [← hW2]; simpa using k2
  rw [hW2]
  clear hW2 nq h11 k0 k1 k2 hB1 d0 d1 d2 d3 d4 d5
  have hz2 : w.heap.size < W2.heap.size := World.block_lt_of_cell? W2 _ l1
  have hA2 : TreeAt W2 b 1 g0 cap0 ps := ⟨(hB2.cell (p := ⟨b, 1, none⟩) hbl).trans h1, fun j hj => (hB2.cell (p := ⟨g0, j, none⟩) (World.block_lt_of_cell? w _ (hcs0 j hj))).trans (hcs0 j hj)⟩
  go_wp2_with fail
  refine (refAhead_at b g0 cap0 ps hT _ _ ht0 (by omega) _ hA2).mono ?_
  rintro e w3 ⟨rfl, rfl⟩
  rw [ha]
  obtain ⟨vp, vc, hvv⟩ : ∃ vp vc, vv = .slice vp vs.length vc := by
    rcases h.vrow.2 with ⟨h', h''⟩ | ⟨g, cap, cur, h', _⟩
    · exact ⟨none, 0, by rw [h', h'']⟩
    · exact ⟨_, _, h'⟩
  subst hvv
  have h2 := h.c2
  go_wp2_with fail
  go_loopw [6] (fun i wr => ∃ k : Nat, k ≤ vs.length ∧ i = .int .i64 k ∧ Hid ((vs.take k).any (fun y => x.is y) = false) ∧ Below w.heap.size w wr ∧ w.heap.size < wr.heap.size ∧ wr.cell? ⟨w.heap.size, 0, none⟩ = some (I64 x.v) ∧ wr.cell? ⟨w.heap.size, 1, none⟩ = some (I64 x.s) ∧ wr.cell? ⟨w.heap.size, 2, none⟩ = some (I64 x.t))
    (fun i _ => vs.length - (intOf i).toNat)
  case atStart => exact ⟨0, by omega, rfl, by simp [Hid], hB2, hz2, l0, l1, l2⟩
  case round =>
    obtain ⟨k, hk, rfl, hno, hB, hz, b0, b1, b2⟩ := hrel
    clear l0 l1 l2 hB2 hz2 hA2
    have hc2 : wr.cell? ⟨b, 2, none⟩ = some (.slice vp vs.length vc) := (hB.cell (p := ⟨b, 2, none⟩) hbl).trans h2
    have hbr : b < wr.heap.size := by omega
    by_cases hlt : k < vs.length
    · obtain ⟨gv, cap, hgv, _, _, hc, _⟩ := vrow_open h.vrow (by omega)
      simp only [Value.slice.injEq, true_and] at hgv
      obtain ⟨rfl, rfl⟩ := hgv
      have hgl : gv < w.heap.size := VCells.lt hc (by omega)
      obtain ⟨y, hy⟩ : ∃ y, vs[k]? = some y := ⟨_, List.getElem?_eq_getElem hlt⟩
      obtain ⟨hc0, hc1, hc2'⟩ := VCells.below hc hB hgl k y hy
      have hgr : gv < wr.heap.size := by omega
      have HY : Hid (vs[k]? = some y) := hy
      clear hy hc
      have hlt' : (k : Int) < (vs.length : Int) := by omega
      cases hxy : x.is y
      · have hne : x ≠ y := Vt.is_false.1 hxy
        have hnext : Hid ((vs.take (k + 1)).any (fun y => x.is y) = false) := by
          show _ = _
          rw [List.take_add_one, HY.out]; simp [hxy]; simpa using hno.out
        by_cases e0 : y.v = x.v
        · by_cases e1 : y.s = x.s
          · have e2 : ¬ y.t = x.t := fun e2 => hne (by cases x; cases y; simp_all)
            have q0 : (y.v == x.v) = true := by simpa using e0
            have q1 : (y.s == x.s) = true := by simpa using e1
            have q2 : (y.t == x.t) = false := by simpa using e2
            clear e0 e1 e2
            go_wp2
            go_roundw
            case rel => exact ⟨k + 1, by omega, by go_num, hnext, hB.alloc (by omega) _, by simp; omega, cell_alloc _ b0, cell_alloc _ b1, cell_alloc _ b2⟩
            case measure => simp [intOf]; omega
          · have q0 : (y.v == x.v) = true := by simpa using e0
            have q1 : (y.s == x.s) = false := by simpa using e1
            clear e0 e1
            go_wp2
            go_roundw
            case rel => exact ⟨k + 1, by omega, by go_num, hnext, hB.alloc (by omega) _, by simp; omega, cell_alloc _ b0, cell_alloc _ b1, cell_alloc _ b2⟩
            case measure => simp [intOf]; omega
        · have q0 : (y.v == x.v) = false := by simpa using e0
          clear e0
          go_wp2
          go_roundw
          case rel => exact ⟨k + 1, by omega, by go_num, hnext, hB.alloc (by omega) _, by simp; omega, cell_alloc _ b0, cell_alloc _ b1, cell_alloc _ b2⟩
          case measure => simp [intOf]; omega
      · have heq : x = y := Vt.is_iff.1 hxy
        subst heq
        have hany : vs.any (fun y => x.is y) = true := List.any_eq_true.2 ⟨x, List.mem_of_getElem? HY.out, hxy⟩
        have HA : Hid (vs.any (fun y => x.is y) = true) := hany
        clear hany
        have q0 : (x.v == x.v) = true := by simp
        have q1 : (x.s == x.s) = true := by simp
        have q2 : (x.t == x.t) = true := by simp
        go_wp2
        go_ret
        have hBn := hB.alloc (by omega) (.cells #[I64 x.v, I64 x.s, I64 x.t] 47)
        refine ⟨by rw [(last_found HA.out).1]; rfl, S, _, by rw [(last_found HA.out).2]; exact h.kept (Chg.of_below (fun _ => False) hBn) (fun _ _ hf => hf), Chg.of_below S hBn, fun k hk => .inl hk⟩
    · have hnone : Hid (vs.any (fun y => x.is y) = false) := by
        have := hno.out
        rw [List.take_of_length_le (by omega)] at this
        exact this
      clear hno
      have hC := h.kept (Chg.of_below (fun _ => False) hB) (fun _ _ hf => hf)
      by_cases hfull : 300 ≤ vs.length
      · go_wp2
        go_ret
        refine ⟨by rw [(last_full hnone.out hfull).1]; rfl, S, _, by rw [(last_full hnone.out hfull).2]; exact hC, Chg.of_below S hB, fun k hk => .inl hk⟩
      · obtain ⟨i0, hi, hz0, hz1, hz2'⟩ := info_parts info_vote
        have h63 : Hid (vs.length + 1 ≤ maxLen) := by show _ ≤ _; unfold maxLen; omega
        have z2 := hC.fz 2
        have hnb : Value.ownBlock (.slice vp vs.length vc) ≠ some b := not_row hC.vrow hC.heap (by decide)
        have hown : ((wr.alloc (.cells #[I64 x.v, I64 x.s, I64 x.t] 47)).drew).ownsRow 0 47 3 (.slice vp vs.length vc) vs.length (vtRow vs) := Chg.row (S := fun _ => False) (Chg.drew (Chg.refl _ _)) (hC.vrow.alloc _) (fun _ _ hf => hf)
        go_wp2
        go_cut [] from 98 to 107 (fun wc => ∃ g1 cap1 w7, w7.ownsRow 0 47 3 (.slice (some ⟨g1, 0, none⟩) (vs.length + 1) cap1) (vs.length + 1) (vtRow vs ++ [I64 x.v, I64 x.s, I64 x.t]) ∧ (wr.alloc (.cells #[I64 x.v, I64 x.s, I64 x.t] 47)).drew.grownBy w7 (Value.ownBlock (.slice vp vs.length vc)) ∧ (Value.ownBlock (.slice vp vs.length vc) = some g1 ∨ g1 = wr.heap.size + 1) ∧ g1 < w7.heap.size ∧ wc = w7.setCell ⟨b, 2, none⟩ (.slice (some ⟨g1, 0, none⟩) (vs.length + 1) cap1))
        case first =>
          go_region_law ((refine step_append_lies _ (by rfl) _ _ _ (by rfl) 0 47 i0 (.agg #[I64 0, I64 0, I64 0]) 3 24 Tryz.underlying39 hi hz0 hz1 hz2' (by rfl) (by omega) (.slice vp vs.length vc) vs.length (vtRow vs) (by rfl) hown ⟨wr.heap.size, 0, none⟩ 1 1 [I64 x.v, I64 x.s, I64 x.t] (by rfl) (by rfl) (World.news_of_block (cs := #[I64 x.v, I64 x.s, I64 x.t]) (heap_alloc_new wr _)) (by simp [Value.oneCell']) (by omega) h63.out (by omega) (Nat.zero_le _) (wr.heap.size + 1) (by simp) ?_; intro g1 cap1 w7 hown7 hgrow hat hlt; have hb7 : w7.heap[b]? = wr.heap[b]? := (hgrow.block b (by simp; omega) (fun e => hnb e.symm)).trans (Below.heap_alloc wr _ b hbr); have y4 : w7.cell? ⟨b, 2, none⟩ = some (.slice vp vs.length vc) := (World.cell?_of_block hb7).trans hc2; have yf : w7.frozen? ⟨b, 2, none⟩ = false := (World.frozen?_of_block hb7).trans z2; clear hb7))
          all_goals (go_wp2; go_meet; exact ⟨_, _, _, hown7, hgrow, hat, hlt, rfl⟩)
        case rest =>
          obtain ⟨g1, cap1, w7, hown7, hgrow, hat, hlt, rfl⟩ := hcut
          have hcg : Chg (fun k => Value.ownBlock (.slice vp vs.length vc) = some k) wr w7 := ((Chg.refl _ wr).alloc _).drew.grown hgrow (fun k e => .inl e)
          have hvr : vtRow vs ++ [I64 x.v, I64 x.s, I64 x.t] = vtRow (vs ++ [x]) := by simp [vtRow, vtCells]
          have hown8 : w7.ownsRow 0 47 3 (.slice (some ⟨g1, 0, none⟩) (vs ++ [x]).length cap1) (vs ++ [x]).length (vtRow (vs ++ [x])) := by
            rw [← hvr]; simpa using hown7
          obtain ⟨S8, hC8, c8, s8⟩ := hC.setV (vs' := vs ++ [x]) hcg (g := g1) (cap := cap1) hown8 (hat.elim .inl (fun e => .inr (by omega))) hlt
          have hlen8 : (vs ++ [x]).length = vs.length + 1 := by simp
          rw [hlen8] at hC8 c8
          obtain ⟨W8, hW8⟩ : ∃ W8, w7.setCell ⟨b, 2, none⟩ (.slice (some ⟨g1, 0, none⟩) (vs.length + 1) cap1) = W8 := ⟨_, rfl⟩
          rw [hW8] at hC8 c8 ⊢
          clear hW8 hown8 hvr hcg hgrow hown7 hlen8 hown
          go_wp2
          go_ret
          refine ⟨by rw [(last_room hnone.out hfull).1]; rfl, S8, _, by rw [(last_room hnone.out hfull).2]; exact hC8, (Chg.of_below S hB).trans c8, fun k hk => (s8 k hk).imp id (fun hle => Nat.le_trans hB.size hle)⟩

end Go.Proofs.YtgebcnnenhgkcaaGreat
/- The document's own Vote gives the program's answer. -/
namespace Go.Proofs.YtgebcnnenhgkcaaGreat
open Go.RowKit

theorem hasB_iff {n : Nat} {k : Int} : hasB n k = true ↔ 0 ≤ k ∧ k < n := by simp [hasB]
theorem hasB_not {n : Nat} {k : Int} : hasB n k = false ↔ k < 0 ∨ (n : Int) ≤ k := by
  rw [← Bool.not_eq_true, hasB_iff]; omega

theorem refVote_at (b : Nat) (S : Nat → Prop) (ws ps : List Int) (vs : List Vt) (wv pv vv : Value) (x : Vt) (w : World) (h : RefAt w b S ws ps vs wv pv vv) (hT : Tree ps) (hw : 0 < ws.length) (hl : vs.length ≤ 300) :
    Calls Tryz.prog 74 #[.pointer (some ⟨b, 0, none⟩), x.val] w fun e w' => e = .returned (.int .i64 (votE ws.length ps vs x)) ∧
      ∃ (S' : Nat → Prop) (vv' : Value), RefAt w' b S' ws ps (votV ws.length ps vs x) wv pv vv' ∧ Chg S w w' ∧ (∀ k, S' k → S k ∨ w.heap.size ≤ k) := by
  have easy : ∀ f : Int, fault ws.length ps vs x = f → (f != 0) = true → (Calls Tryz.prog 74 #[.pointer (some ⟨b, 0, none⟩), x.val] w fun e w' => e = .returned (.int .i64 f) ∧ Below w.heap.size w w') →
      Calls Tryz.prog 74 #[.pointer (some ⟨b, 0, none⟩), x.val] w fun e w' => e = .returned (.int .i64 (votE ws.length ps vs x)) ∧
      ∃ (S' : Nat → Prop) (vv' : Value), RefAt w' b S' ws ps (votV ws.length ps vs x) wv pv vv' ∧ Chg S w w' ∧ (∀ k, S' k → S k ∨ w.heap.size ≤ k) := fun f hf hf0 hc => by
    have hne : ¬ fault ws.length ps vs x = 0 := by rw [hf]; simpa using hf0
    unfold votE votV
    rw [if_neg hne, if_neg hne]
    refine hc.mono ?_
    rintro e w' ⟨rfl, hB⟩
    exact ⟨by rw [hf], S, vv, h.kept (Chg.of_below (fun _ => False) hB) (fun _ _ hf => hf), Chg.of_below S hB, fun k hk => .inl hk⟩
  cases hv : hasB ws.length x.v
  · refine easy 3 (by simp [fault, hv]) rfl ?_
    rcases hasB_not.1 hv with h1 | h1
    · exact refVote_v0 b S ws ps vs wv pv vv x w h hT hw h1
    · exact refVote_v1 b S ws ps vs wv pv vv x w h hT hw (by omega) h1
  obtain ⟨hv0, hv1⟩ := hasB_iff.1 hv
  cases hs : hasB ps.length x.s
  · refine easy 4 (by simp [fault, hv, hs]) rfl ?_
    rcases hasB_not.1 hs with h1 | h1
    · exact refVote_s0 b S ws ps vs wv pv vv x w h hT hw hv0 hv1 h1
    · exact refVote_s1 b S ws ps vs wv pv vv x w h hT hw hv0 hv1 (by omega) h1
  obtain ⟨hs0, hs1⟩ := hasB_iff.1 hs
  cases ht : hasB ps.length x.t
  · refine easy 4 (by simp [fault, hv, ht]) rfl ?_
    rcases hasB_not.1 ht with h1 | h1
    · exact refVote_t0 b S ws ps vs wv pv vv x w h hT hw hv0 hv1 hs0 hs1 h1
    · exact refVote_t1 b S ws ps vs wv pv vv x w h hT hw hv0 hv1 hs0 hs1 (by omega) h1
  obtain ⟨ht0, ht1⟩ := hasB_iff.1 ht
  cases ha : ahead ps x.s x.t
  · exact easy 5 (by simp [fault, hv, hs, ht, ha]) rfl (refVote_5 b S ws ps vs wv pv vv x w h hT hw hv0 hv1 hs0 hs1 ht0 ht1 ha)
  · have h6 := refVote_6 b S ws ps vs wv pv vv x w h hT hw hv0 hv1 hs0 hs1 ht0 ht1 ha hl
    have e1 : votE ws.length ps vs x = lastE vs x := by
      cases hany : vs.any (fun y => x.is y) <;> simp [votE, lastE, fault, hv, hs, ht, ha, hany]
    have e2 : votV ws.length ps vs x = lastV vs x := by
      cases hany : vs.any (fun y => x.is y) <;> simp [votV, lastV, fault, hv, hs, ht, ha, hany]
    rw [e1, e2]
    exact h6
end Go.Proofs.YtgebcnnenhgkcaaGreat
