/- The document's own Vote. -/
import Derived.Test.YtgebcnnenhgkcaaGreatRefB
namespace Go.Proofs.YtgebcnnenhgkcaaGreat
open Go.RowKit

set_option maxRecDepth 100000 in
set_option maxHeartbeats 1000000 in
theorem refVote_v0 (b : Nat) (S : Nat → Prop) (ws ps : List Int) (vs : List Vt) (wv pv vv : Value) (x : Vt) (w : World) (h : RefAt w b S ws ps vs wv pv vv) (hT : Tree ps) (hw : 0 < ws.length) (hv : x.v < 0) :
    Calls Tryz.prog 74 #[.pointer (some ⟨b, 0, none⟩), x.val] w fun e w' => e = .returned (.int .i64 3) ∧ Below w.heap.size w w' := by
  have hbl := h.lt b h.inb
  have h0 := h.c0
  have h1 := h.c1
  obtain ⟨gw, capw, rfl, _, _, _, _⟩ := row_open h.wrow hw
  obtain ⟨g0, cap0, rfl, _, _, hcs0, _⟩ := row_open h.prow hT.1
  have hlen : ps.length ≤ 40 := hT.2.1
  have d0 : decide (x.v < 0) = true := by simp; omega
  go_enter Tryz.func74, Tryz.ntmps74
  go_wp2
  go_quiet (fail)
  go_wp2
  go_ret
  exact ⟨rfl, below_drewN ((Below.refl _ _).alloc (Nat.le_refl _) _) _⟩

set_option maxRecDepth 100000 in
set_option maxHeartbeats 1000000 in
theorem refVote_v1 (b : Nat) (S : Nat → Prop) (ws ps : List Int) (vs : List Vt) (wv pv vv : Value) (x : Vt) (w : World) (h : RefAt w b S ws ps vs wv pv vv) (hT : Tree ps) (hw : 0 < ws.length) (hv : 0 ≤ x.v) (hv2 : (ws.length : Int) ≤ x.v) :
    Calls Tryz.prog 74 #[.pointer (some ⟨b, 0, none⟩), x.val] w fun e w' => e = .returned (.int .i64 3) ∧ Below w.heap.size w w' := by
  have hbl := h.lt b h.inb
  have h0 := h.c0
  have h1 := h.c1
  obtain ⟨gw, capw, rfl, _, _, _, _⟩ := row_open h.wrow hw
  obtain ⟨g0, cap0, rfl, _, _, hcs0, _⟩ := row_open h.prow hT.1
  have hlen : ps.length ≤ 40 := hT.2.1
  have d0 : decide (x.v < 0) = false := by simp; omega
  have d1 : decide ((ws.length : Int) ≤ x.v) = true := by simp; omega
  go_enter Tryz.func74, Tryz.ntmps74
  go_wp2
  go_quiet (fail)
  go_wp2
  go_ret
  exact ⟨rfl, below_drewN ((Below.refl _ _).alloc (Nat.le_refl _) _) _⟩

set_option maxRecDepth 100000 in
set_option maxHeartbeats 1000000 in
theorem refVote_s0 (b : Nat) (S : Nat → Prop) (ws ps : List Int) (vs : List Vt) (wv pv vv : Value) (x : Vt) (w : World) (h : RefAt w b S ws ps vs wv pv vv) (hT : Tree ps) (hw : 0 < ws.length) (hv0 : 0 ≤ x.v) (hv1 : x.v < ws.length) (hs : x.s < 0) :
    Calls Tryz.prog 74 #[.pointer (some ⟨b, 0, none⟩), x.val] w fun e w' => e = .returned (.int .i64 4) ∧ Below w.heap.size w w' := by
  have hbl := h.lt b h.inb
  have h0 := h.c0
  have h1 := h.c1
  obtain ⟨gw, capw, rfl, _, _, _, _⟩ := row_open h.wrow hw
  obtain ⟨g0, cap0, rfl, _, _, hcs0, _⟩ := row_open h.prow hT.1
  have hlen : ps.length ≤ 40 := hT.2.1
  have d0 : decide (x.v < 0) = false := by simp; omega
  have d1 : decide ((ws.length : Int) ≤ x.v) = false := by simp; omega
  have d2 : decide (x.s < 0) = true := by simp; omega
  go_enter Tryz.func74, Tryz.ntmps74
  go_wp2
  go_quiet (fail)
  obtain ⟨W1, hW1⟩ : ∃ W1, (w.alloc (.cells #[I64 x.v, I64 x.s, I64 x.t] 47)).drewN nq = W1 := ⟨_, rfl⟩
  have hB1 : Below w.heap.size w W1 := by rw [← hW1]; exact below_drewN ((Below.refl _ _).alloc (Nat.le_refl _) _) _
  have k0 : W1.cell? ⟨w.heap.size, 0, none⟩ = some (I64 x.v) := by rw [← hW1]; simp [go_sem]
  have k1 : W1.cell? ⟨w.heap.size, 1, none⟩ = some (I64 x.s) := by rw [← hW1]; simp [go_sem]
  have k2 : W1.cell? ⟨w.heap.size, 2, none⟩ = some (I64 x.t) := by rw [← hW1]; simp [go_sem]
  rw [hW1]
  clear hW1 nq
  have h11 : W1.cell? ⟨b, 1, none⟩ = some (.slice (some ⟨g0, 0, none⟩) ps.length cap0) := (hB1.cell (p := ⟨b, 1, none⟩) hbl).trans h1
  go_wp2
  go_quiet (fail)
  go_wp2
  go_ret
  exact ⟨rfl, below_drewN hB1 _⟩

set_option maxRecDepth 100000 in
set_option maxHeartbeats 1000000 in
theorem refVote_s1 (b : Nat) (S : Nat → Prop) (ws ps : List Int) (vs : List Vt) (wv pv vv : Value) (x : Vt) (w : World) (h : RefAt w b S ws ps vs wv pv vv) (hT : Tree ps) (hw : 0 < ws.length) (hv0 : 0 ≤ x.v) (hv1 : x.v < ws.length) (hs : 0 ≤ x.s) (hs2 : (ps.length : Int) ≤ x.s) :
    Calls Tryz.prog 74 #[.pointer (some ⟨b, 0, none⟩), x.val] w fun e w' => e = .returned (.int .i64 4) ∧ Below w.heap.size w w' := by
  have hbl := h.lt b h.inb
  have h0 := h.c0
  have h1 := h.c1
  obtain ⟨gw, capw, rfl, _, _, _, _⟩ := row_open h.wrow hw
  obtain ⟨g0, cap0, rfl, _, _, hcs0, _⟩ := row_open h.prow hT.1
  have hlen : ps.length ≤ 40 := hT.2.1
  have d0 : decide (x.v < 0) = false := by simp; omega
  have d1 : decide ((ws.length : Int) ≤ x.v) = false := by simp; omega
  have d2 : decide (x.s < 0) = false := by simp; omega
  have d3 : decide ((ps.length : Int) ≤ x.s) = true := by simp; omega
  go_enter Tryz.func74, Tryz.ntmps74
  go_wp2
  go_quiet (fail)
  obtain ⟨W1, hW1⟩ : ∃ W1, (w.alloc (.cells #[I64 x.v, I64 x.s, I64 x.t] 47)).drewN nq = W1 := ⟨_, rfl⟩
  have hB1 : Below w.heap.size w W1 := by rw [← hW1]; exact below_drewN ((Below.refl _ _).alloc (Nat.le_refl _) _) _
  have k0 : W1.cell? ⟨w.heap.size, 0, none⟩ = some (I64 x.v) := by rw [← hW1]; simp [go_sem]
  have k1 : W1.cell? ⟨w.heap.size, 1, none⟩ = some (I64 x.s) := by rw [← hW1]; simp [go_sem]
  have k2 : W1.cell? ⟨w.heap.size, 2, none⟩ = some (I64 x.t) := by rw [← hW1]; simp [go_sem]
  rw [hW1]
  clear hW1 nq
  have h11 : W1.cell? ⟨b, 1, none⟩ = some (.slice (some ⟨g0, 0, none⟩) ps.length cap0) := (hB1.cell (p := ⟨b, 1, none⟩) hbl).trans h1
  go_wp2
  go_quiet (fail)
  go_wp2
  go_ret
  exact ⟨rfl, below_drewN hB1 _⟩

set_option maxRecDepth 100000 in
set_option maxHeartbeats 1000000 in
theorem refVote_t0 (b : Nat) (S : Nat → Prop) (ws ps : List Int) (vs : List Vt) (wv pv vv : Value) (x : Vt) (w : World) (h : RefAt w b S ws ps vs wv pv vv) (hT : Tree ps) (hw : 0 < ws.length) (hv0 : 0 ≤ x.v) (hv1 : x.v < ws.length) (hs0 : 0 ≤ x.s) (hs1 : x.s < ps.length) (ht : x.t < 0) :
    Calls Tryz.prog 74 #[.pointer (some ⟨b, 0, none⟩), x.val] w fun e w' => e = .returned (.int .i64 4) ∧ Below w.heap.size w w' := by
  have hbl := h.lt b h.inb
  have h0 := h.c0
  have h1 := h.c1
  obtain ⟨gw, capw, rfl, _, _, _, _⟩ := row_open h.wrow hw
  obtain ⟨g0, cap0, rfl, _, _, hcs0, _⟩ := row_open h.prow hT.1
  have hlen : ps.length ≤ 40 := hT.2.1
  have d0 : decide (x.v < 0) = false := by simp; omega
  have d1 : decide ((ws.length : Int) ≤ x.v) = false := by simp; omega
  have d2 : decide (x.s < 0) = false := by simp; omega
  have d3 : decide ((ps.length : Int) ≤ x.s) = false := by simp; omega
  have d4 : decide (x.t < 0) = true := by simp; omega
  go_enter Tryz.func74, Tryz.ntmps74
  go_wp2
  go_quiet (fail)
  obtain ⟨W1, hW1⟩ : ∃ W1, (w.alloc (.cells #[I64 x.v, I64 x.s, I64 x.t] 47)).drewN nq = W1 := ⟨_, rfl⟩
  have hB1 : Below w.heap.size w W1 := by rw [← hW1]; exact below_drewN ((Below.refl _ _).alloc (Nat.le_refl _) _) _
  have k0 : W1.cell? ⟨w.heap.size, 0, none⟩ = some (I64 x.v) := by rw [← hW1]; simp [go_sem]
  have k1 : W1.cell? ⟨w.heap.size, 1, none⟩ = some (I64 x.s) := by rw [← hW1]; simp [go_sem]
  have k2 : W1.cell? ⟨w.heap.size, 2, none⟩ = some (I64 x.t) := by rw [← hW1]; simp [go_sem]
  rw [hW1]
  clear hW1 nq
  have h11 : W1.cell? ⟨b, 1, none⟩ = some (.slice (some ⟨g0, 0, none⟩) ps.length cap0) := (hB1.cell (p := ⟨b, 1, none⟩) hbl).trans h1
  go_wp2
  go_quiet (fail)
  go_wp2
  go_ret
  exact ⟨rfl, below_drewN hB1 _⟩

set_option maxRecDepth 100000 in
set_option maxHeartbeats 1000000 in
theorem refVote_t1 (b : Nat) (S : Nat → Prop) (ws ps : List Int) (vs : List Vt) (wv pv vv : Value) (x : Vt) (w : World) (h : RefAt w b S ws ps vs wv pv vv) (hT : Tree ps) (hw : 0 < ws.length) (hv0 : 0 ≤ x.v) (hv1 : x.v < ws.length) (hs0 : 0 ≤ x.s) (hs1 : x.s < ps.length) (ht : 0 ≤ x.t) (ht2 : (ps.length : Int) ≤ x.t) :
    Calls Tryz.prog 74 #[.pointer (some ⟨b, 0, none⟩), x.val] w fun e w' => e = .returned (.int .i64 4) ∧ Below w.heap.size w w' := by
  have hbl := h.lt b h.inb
  have h0 := h.c0
  have h1 := h.c1
  obtain ⟨gw, capw, rfl, _, _, _, _⟩ := row_open h.wrow hw
  obtain ⟨g0, cap0, rfl, _, _, hcs0, _⟩ := row_open h.prow hT.1
  have hlen : ps.length ≤ 40 := hT.2.1
  have d0 : decide (x.v < 0) = false := by simp; omega
  have d1 : decide ((ws.length : Int) ≤ x.v) = false := by simp; omega
  have d2 : decide (x.s < 0) = false := by simp; omega
  have d3 : decide ((ps.length : Int) ≤ x.s) = false := by simp; omega
  have d4 : decide (x.t < 0) = false := by simp; omega
  have d5 : decide ((ps.length : Int) ≤ x.t) = true := by simp; omega
  go_enter Tryz.func74, Tryz.ntmps74
  go_wp2
  go_quiet (fail)
  obtain ⟨W1, hW1⟩ : ∃ W1, (w.alloc (.cells #[I64 x.v, I64 x.s, I64 x.t] 47)).drewN nq = W1 := ⟨_, rfl⟩
  have hB1 : Below w.heap.size w W1 := by rw [← hW1]; exact below_drewN ((Below.refl _ _).alloc (Nat.le_refl _) _) _
  have k0 : W1.cell? ⟨w.heap.size, 0, none⟩ = some (I64 x.v) := by rw [← hW1]; simp [go_sem]
  have k1 : W1.cell? ⟨w.heap.size, 1, none⟩ = some (I64 x.s) := by rw [← hW1]; simp [go_sem]
  have k2 : W1.cell? ⟨w.heap.size, 2, none⟩ = some (I64 x.t) := by rw [← hW1]; simp [go_sem]
  rw [hW1]
  clear hW1 nq
  have h11 : W1.cell? ⟨b, 1, none⟩ = some (.slice (some ⟨g0, 0, none⟩) ps.length cap0) := (hB1.cell (p := ⟨b, 1, none⟩) hbl).trans h1
  go_wp2
  go_quiet (fail)
  go_wp2
  go_ret
  exact ⟨rfl, below_drewN hB1 _⟩

end Go.Proofs.YtgebcnnenhgkcaaGreat
