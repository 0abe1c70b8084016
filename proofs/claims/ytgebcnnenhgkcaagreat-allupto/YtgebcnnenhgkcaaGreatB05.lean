/- Block's inner parts: a block is laid, and taken back where there are too many. -/
import Derived.Deep.RegionHeld3
import Derived.WalkSpells
import Derived.Deep.QuietTactic
import Derived.BigQuiet
import Derived.BigRegion
import Derived.Deep.RegionLaw
import Derived.Deep.DeepCutAuto
import Derived.Test.YtgebcnnenhgkcaaGreatB03
import Derived.Test.YtgebcnnenhgkcaaGreatB02
import Derived.Test.YtgebcnnenhgkcaaGreatB04
namespace Go.Proofs.YtgebcnnenhgkcaaGreat
open Go.RowKit

theorem info_int : (Tryz.prog.info? 3).map (fun i => (i.zero, i.size, i.bytes)) = some (some (I64 0), 1, 8) := by kernel_rfl
theorem info_vote : (Tryz.prog.info? 47).map (fun i => (i.zero, i.size, i.bytes)) = some (some (.agg #[I64 0, I64 0, I64 0]), 3, 24) := by kernel_rfl

set_option maxRecDepth 100000 in
set_option maxHeartbeats 1000000 in
theorem treeLay_at (b : Nat) (S : Nat → Prop) (m : Int) (ws ps : List Int) (vs : List Vt) (wv pv vv : Value) (p : Int) (w : World) (h : CourtAt w b S m ws ps vs wv pv vv) (h0 : 0 < ps.length) (hl : ps.length ≤ 41) :
    Calls Tryz.prog 87 #[.pointer (some ⟨b, 3, none⟩), .int .i64 p] w fun e w' => e = .returned (.int .i64 ps.length) ∧
      ∃ (S' : Nat → Prop) (g cap : Nat), CourtAt w' b S' m ws (ps ++ [p]) vs wv (.slice (some ⟨g, 0, none⟩) (ps.length + 1) cap) vv ∧ Chg S w w' ∧ (∀ k, S' k → S k ∨ w.heap.size ≤ k) := by
  obtain ⟨i0, hi, hz0, hz1, hz2⟩ := info_parts info_int
  have hbl := h.lt b h.inb
  have h3 := h.c3
  have hf3 := h.fz 3
  have hpb : pv.ownBlock ≠ some b := not_row h.prow h.heap (by decide)
  obtain ⟨g0, cap0, rfl, hle0, hm0, hcs0, _⟩ := row_open h.prow h0
  have h63 : Hid (ps.length + 1 ≤ maxLen) := by show _ ≤ _; unfold maxLen; omega
  clear hm0 hcs0
  go_enter Tryz.func87, Tryz.ntmps87
  go_wp2_with (at_builtin; refine wpList_append_lies _ (by rfl) _ _ _ (by rfl) 0 3 i0 (I64 0) 1 8 Tryz.underlying22 hi hz0 hz1 hz2 rfl (by omega) (.slice (some ⟨g0, 0, none⟩) ps.length cap0) ps.length (ps.map I64) (by rfl) (h.prow.alloc _) ⟨w.heap.size, 0, none⟩ 1 1 [I64 p] (by rfl) (by rfl) (cell_one_new _ _ _) (by simp [Value.oneCell']) (by omega) h63.out (by omega) (Nat.zero_le _) (w.heap.size + 1) (by simp) ?_; intro g cap w1 hown hgrow hat hlt; have hb1 : w1.heap[b]? = w.heap[b]? := (hgrow.block b (by simp; omega) (fun e => hpb e.symm)).trans (Below.heap_alloc w _ b hbl); have hx3 : w1.cell? ⟨b, 3, none⟩ = some (.slice (some ⟨g0, 0, none⟩) ps.length cap0) := (World.cell?_of_block hb1).trans h3; have hxf : w1.frozen? ⟨b, 3, none⟩ = false := (World.frozen?_of_block hb1).trans hf3; clear hb1)
  go_ret
  refine ⟨by simp, ?_⟩
  have hc : Chg (fun k => Value.ownBlock (.slice (some ⟨g0, 0, none⟩) ps.length cap0) = some k) w w1 := ((Chg.refl _ w).alloc _).grown hgrow (fun k e => .inl e)
  obtain ⟨S', h1, h2, h3'⟩ := h.setP (ps' := ps ++ [p]) hc (g := g) (cap := cap) (by simpa using hown) (hat.elim .inl (fun e => .inr (by omega))) hlt
  simp only [List.length_append, List.length_cons, List.length_nil, Nat.zero_add] at h1 h2
  exact ⟨S', g, cap, h1, h2, h3'⟩

theorem treeKeep_at (b o g n cap k : Nat) (w : World) (hc : w.cell? ⟨b, o, none⟩ = some (.slice (some ⟨g, 0, none⟩) n cap)) (hf : w.frozen? ⟨b, o, none⟩ = false) (hk : k ≤ n) (hn : n ≤ cap) :
    Calls Tryz.prog 85 #[.pointer (some ⟨b, o, none⟩), .int .i64 k] w fun e w' => e = .returned (.tuple #[]) ∧ w' = w.setCell ⟨b, o, none⟩ (.slice (some ⟨g, 0, none⟩) k cap) := by
  have h1 : (k : Int) ≤ (cap : Int) := by omega
  have h2 : (0 : Int) ≤ (k : Int) := by omega
  go_enter Tryz.func85, Tryz.ntmps85
  go_wp2
  go_end0
  exact ⟨rfl, rfl⟩

theorem lay1_ok (F C B : Nat) (u : FrameMode) (w : World) (hF : w.cell? ⟨F, 0, none⟩ = some (.int .i64 0)) :
    CallsD Tryz.prog 84 #[.pointer (some ⟨F, 0, none⟩), .pointer (some ⟨C, 0, none⟩), .pointer (some ⟨B, 0, none⟩)] u w fun e u' w' => u' = u ∧ (e = .returned (.tuple #[]) ∧ w' = w) := by
  go_enter_d Tryz.func84, Tryz.ntmps84
  go_wp2
  go_end0
  exact ⟨rfl, rfl⟩

set_option maxHeartbeats 1000000 in
theorem lay1_back (F C B b g n cap k : Nat) (f : Int) (u : FrameMode) (w : World) (hF : w.cell? ⟨F, 0, none⟩ = some (.int .i64 f)) (hf0 : (f != 0) = true) (hC : w.cell? ⟨C, 0, none⟩ = some (.pointer (some ⟨b, 0, none⟩))) (hB : w.cell? ⟨B, 0, none⟩ = some (.int .i64 k))
    (hc : w.cell? ⟨b, 3, none⟩ = some (.slice (some ⟨g, 0, none⟩) n cap)) (hf : w.frozen? ⟨b, 3, none⟩ = false) (hk : k ≤ n) (hn : n ≤ cap) :
    CallsD Tryz.prog 84 #[.pointer (some ⟨F, 0, none⟩), .pointer (some ⟨C, 0, none⟩), .pointer (some ⟨B, 0, none⟩)] u w fun e u' w' => u' = u ∧ (e = .returned (.tuple #[]) ∧ w' = w.drew.setCell ⟨b, 3, none⟩ (.slice (some ⟨g, 0, none⟩) k cap)) := by
  go_enter_d Tryz.func84, Tryz.ntmps84
  go_wp2
  go_region_held3 (fun w' => w'.cell? ⟨C, 0, none⟩ = some (.pointer (some ⟨b, 0, none⟩)) ∧ w'.cell? ⟨B, 0, none⟩ = some (.int .i64 k))
    (first | (refine ⟨by assumption, by assumption⟩) | (refine ⟨?_, ?_⟩ <;> simpa) | go_keep)
    ((go_at_call 85; refine (treeKeep_at b 3 g n cap k w.drew hc hf hk hn).mono ?_; rintro e w3 ⟨rfl, rfl⟩
      have e1 : (w.drew.setCell ⟨b, 3, none⟩ (.slice (some ⟨g, 0, none⟩) k cap)).cell? ⟨C, 0, none⟩ = some (.pointer (some ⟨b, 0, none⟩)) := (World.cell?_setCell_other _ _ _ _ (by simp)).trans hC
      have e2 : (w.drew.setCell ⟨b, 3, none⟩ (.slice (some ⟨g, 0, none⟩) k cap)).cell? ⟨B, 0, none⟩ = some (.int .i64 k) := (World.cell?_setCell_other _ _ _ _ (by simp)).trans hB))
  go_wp2
  go_end0
  exact ⟨rfl, rfl⟩

set_option maxRecDepth 100000 in
set_option maxHeartbeats 1000000 in
theorem lay_none (b : Nat) (S : Nat → Prop) (ws ps : List Int) (vs : List Vt) (wv pv vv : Value) (p : Int) (w : World) (h : CourtAt w b S 1 ws ps vs wv pv vv) (h0 : 0 < ps.length) (hno : hasB ps.length p = false) :
    Calls Tryz.prog 49 #[.pointer (some ⟨b, 0, none⟩), .int .i64 p] w fun e w' => e = .returned (.tuple #[.int .i64 0, .int .i64 4]) ∧
      ∃ (S' : Nat → Prop) (pv' : Value), CourtAt w' b S' 1 ws ps vs wv pv' vv ∧ Chg S w w' ∧ (∀ k, S' k → S k ∨ w.heap.size ≤ k) := by
  have hbl := h.lt b h.inb
  have h3 := h.c3
  have hf3 := h.fz 3
  obtain ⟨g0, cap0, rfl, hle0, hm0, hcs0, _⟩ := row_open h.prow h0
  clear hm0 hcs0
  have hmf : ∀ (fn : Fn) (first cap : Array Value) (w : World), (Instr.makeFunc fn first cap).run Tryz.prog w = .ok (.func fn first cap) w := fun _ _ _ _ => rfl
  go_enter_defers Tryz.func49, Tryz.ntmps49
  go_wp2_with (go_at_call 83; refine (count_at b 3 (some ⟨g0, 0, none⟩) ps.length cap0 _ ?_).mono ?_; (simpa [go_sem, hbl] using h3); rintro e w' ⟨rfl, rfl⟩)
  obtain ⟨W3, hW3⟩ : ∃ W3, ((w.alloc (.cells #[.pointer (some ⟨b, 0, none⟩)] 26)).alloc (.cells #[.int .i64 0] 42)).alloc (.cells #[.int .i64 ps.length] 3) = W3 := ⟨_, rfl⟩
  have hs3 : W3.heap.size = w.heap.size + 1 + 1 + 1 := by rw [← hW3]; simp
  have k0 : W3.cell? ⟨w.heap.size, 0, none⟩ = some (.pointer (some ⟨b, 0, none⟩)) := by rw [← hW3]; simp [go_sem]
  have k1 : W3.cell? ⟨w.heap.size + 1, 0, none⟩ = some (.int .i64 0) := by rw [← hW3]; simp [go_sem]
  have f1 : W3.frozen? ⟨w.heap.size + 1, 0, none⟩ = false := by rw [← hW3]; simp [go_sem]
  have k2 : W3.cell? ⟨w.heap.size + 1 + 1, 0, none⟩ = some (.int .i64 ps.length) := by rw [← hW3]; simp [go_sem]
  have hB3 : Below w.heap.size w W3 := by rw [← hW3]; exact (((Below.refl _ w).alloc (Nat.le_refl _) _).alloc (by simp) _).alloc (by simp; omega) _
  rw [hW3]
  clear hW3
  have hC3 := h.kept (Chg.of_below (fun _ => False) hB3) (fun _ _ hf => hf)
  have h33 := hC3.c3
  have hf33 := hC3.fz 3
  refine (has_at b 3 (some ⟨g0, 0, none⟩) ps.length cap0 _ _ h33).mono ?_
  rintro e w' ⟨rfl, rfl⟩
  rw [hno]
  go_wp2_with fail
  obtain ⟨W4, hW4⟩ : ∃ W4, w'.setCell ⟨w.heap.size + 1, 0, none⟩ (.int .i64 4) = W4 := ⟨_, rfl⟩
  have q0 : W4.cell? ⟨w.heap.size, 0, none⟩ = some (.pointer (some ⟨b, 0, none⟩)) := by rw [← hW4, World.cell?_setCell_other _ _ _ _ (by simp)]; exact k0
  have q1 : W4.cell? ⟨w.heap.size + 1, 0, none⟩ = some (.int .i64 4) := by rw [← hW4]; exact World.cell?_setCell_same _ _ _ k1
  have q2 : W4.cell? ⟨w.heap.size + 1 + 1, 0, none⟩ = some (.int .i64 ps.length) := by rw [← hW4, World.cell?_setCell_other _ _ _ _ (by simp)]; exact k2
  have hB4 : Below w.heap.size w W4 := by rw [← hW4]; exact hB3.setCell (p := ⟨w.heap.size + 1, 0, none⟩) (by simp) _
  rw [hW4]
  clear hW4 k0 k1 k2 h33 hf33 hC3
  have hC4 := h.kept (Chg.of_below (fun _ => False) hB4) (fun _ _ hf => hf)
  refine leaves_cons (f := 84) (args := #[.pointer (some ⟨w.heap.size + 1, 0, none⟩), .pointer (some ⟨w.heap.size, 0, none⟩), .pointer (some ⟨w.heap.size + 1 + 1, 0, none⟩)]) (by simp) (by simp [go_sem]) ?_
  refine (lay1_back _ _ _ b g0 ps.length cap0 ps.length 4 .returning _ q1 rfl q0 q2 hC4.c3 (hC4.fz 3) (Nat.le_refl _) hle0).mono ?_
  rintro e u' w'' ⟨rfl, rfl, rfl⟩
  have hr : (W4.drew.setCell ⟨b, 3, none⟩ (.slice (some ⟨g0, 0, none⟩) ps.length cap0)).cell? ⟨w.heap.size + 1, 0, none⟩ = some (.int .i64 4) := (World.cell?_setCell_other _ _ _ _ (by simp)).trans q1
  obtain ⟨S', a1, a2, a3⟩ := hC4.setP (w1 := W4.drew) (ps' := ps) (Chg.drew (Chg.refl _ _)) (g := g0) (cap := cap0) (Chg.row (S := fun _ => False) (Chg.drew (Chg.refl _ _)) hC4.prow (fun _ _ hf => hf)) (.inl rfl) (Nat.lt_of_lt_of_le (hC4.lt g0 (hC4.inp g0 rfl)) (Nat.le_refl _))
  obtain ⟨W5, hW5⟩ : ∃ W5, W4.drew.setCell ⟨b, 3, none⟩ (.slice (some ⟨g0, 0, none⟩) ps.length cap0) = W5 := ⟨_, rfl⟩
  rw [hW5] at hr a1 a2 ⊢
  clear hW5
  refine ⟨.tuple #[.int .i64 0, .int .i64 4], ?_, rfl, S', _, a1, (Chg.of_below S hB4).trans a2, fun k hk => (a3 k hk).imp id (fun hle => Nat.le_trans hB4.size hle)⟩
  simp [results, Tryz.results49, go_sem, hr]

set_option maxRecDepth 100000 in
set_option maxHeartbeats 1000000 in
theorem lay_many (b : Nat) (S : Nat → Prop) (ws ps : List Int) (vs : List Vt) (wv pv vv : Value) (p : Int) (w : World) (h : CourtAt w b S 1 ws ps vs wv pv vv) (h0 : 0 < ps.length) (hyes : hasB ps.length p = true) (hfull : 40 ≤ ps.length) (hfull2 : ps.length ≤ 40) :
    Calls Tryz.prog 49 #[.pointer (some ⟨b, 0, none⟩), .int .i64 p] w fun e w' => e = .returned (.tuple #[.int .i64 0, .int .i64 7]) ∧
      ∃ (S' : Nat → Prop) (pv' : Value), CourtAt w' b S' 1 ws ps vs wv pv' vv ∧ Chg S w w' ∧ (∀ k, S' k → S k ∨ w.heap.size ≤ k) := by
  have hbl := h.lt b h.inb
  have h3 := h.c3
  have hf3 := h.fz 3
  obtain ⟨g0, cap0, rfl, hle0, hm0, hcs0, _⟩ := row_open h.prow h0
  clear hm0 hcs0
  have hmf : ∀ (fn : Fn) (first cap : Array Value) (w : World), (Instr.makeFunc fn first cap).run Tryz.prog w = .ok (.func fn first cap) w := fun _ _ _ _ => rfl
  go_enter_defers Tryz.func49, Tryz.ntmps49
  go_wp2_with (go_at_call 83; refine (count_at b 3 (some ⟨g0, 0, none⟩) ps.length cap0 _ ?_).mono ?_; (simpa [go_sem, hbl] using h3); rintro e w' ⟨rfl, rfl⟩)
  obtain ⟨W3, hW3⟩ : ∃ W3, ((w.alloc (.cells #[.pointer (some ⟨b, 0, none⟩)] 26)).alloc (.cells #[.int .i64 0] 42)).alloc (.cells #[.int .i64 ps.length] 3) = W3 := ⟨_, rfl⟩
  have hs3 : W3.heap.size = w.heap.size + 1 + 1 + 1 := by rw [← hW3]; simp
  have k0 : W3.cell? ⟨w.heap.size, 0, none⟩ = some (.pointer (some ⟨b, 0, none⟩)) := by rw [← hW3]; simp [go_sem]
  have k1 : W3.cell? ⟨w.heap.size + 1, 0, none⟩ = some (.int .i64 0) := by rw [← hW3]; simp [go_sem]
  have f1 : W3.frozen? ⟨w.heap.size + 1, 0, none⟩ = false := by rw [← hW3]; simp [go_sem]
  have k2 : W3.cell? ⟨w.heap.size + 1 + 1, 0, none⟩ = some (.int .i64 ps.length) := by rw [← hW3]; simp [go_sem]
  have hB3 : Below w.heap.size w W3 := by rw [← hW3]; exact (((Below.refl _ w).alloc (Nat.le_refl _) _).alloc (by simp) _).alloc (by simp; omega) _
  rw [hW3]
  clear hW3
  have hC3 := h.kept (Chg.of_below (fun _ => False) hB3) (fun _ _ hf => hf)
  have h33 := hC3.c3
  have hf33 := hC3.fz 3
  refine (has_at b 3 (some ⟨g0, 0, none⟩) ps.length cap0 _ _ h33).mono ?_
  rintro e w' ⟨rfl, rfl⟩
  rw [hyes]
  go_wp2_with fail
  refine (treeLay_at b S 1 ws ps vs wv _ vv p _ hC3 h0 (by omega)).mono ?_
  rintro e w5 ⟨rfl, S5, g, cap, hC5, hg5, hsub5⟩
  have hnS : ∀ k, w.heap.size ≤ k → ¬ S k := fun k hk hS => by have := h.lt k hS; omega
  have r0 : w5.cell? ⟨w.heap.size, 0, none⟩ = some (.pointer (some ⟨b, 0, none⟩)) := hg5.cell k0 (hnS _ (by simp))
  have r1 : w5.cell? ⟨w.heap.size + 1, 0, none⟩ = some (.int .i64 0) := hg5.cell k1 (hnS _ (by simp))
  have r2 : w5.cell? ⟨w.heap.size + 1 + 1, 0, none⟩ = some (.int .i64 ps.length) := hg5.cell k2 (hnS _ (by simp; omega))
  have f5 : w5.frozen? ⟨w.heap.size + 1, 0, none⟩ = false := (World.frozen?_of_block (hg5.block (w.heap.size + 1) (by omega) (hnS _ (by simp)))).trans f1
  have c5 := hC5.c3
  clear k0 k1 k2 f1 h33 hf33 hC3
  have hcap : ps.length + 1 ≤ cap := by
    rcases hC5.prow.2 with ⟨h', _⟩ | ⟨_, _, _, h', _, _, hle, _⟩
    · simp at h'
    · simp only [Value.slice.injEq, Option.some.injEq, Addr.mk.injEq] at h'
      obtain ⟨_, _, rfl⟩ := h'
      simpa using hle
  have c5' : w5.cell? ⟨b, 3, none⟩ = some (.slice (some ⟨g, 0, none⟩) (ps.length + 1) cap) := c5
  clear c5
  go_wp2_with fail
  refine (count_at b 3 (some ⟨g, 0, none⟩) (ps.length + 1) cap _ c5').mono ?_
  rintro e w6 ⟨rfl, rfl⟩
  have hgt : (40 : Int) < ((ps.length + 1 : Nat) : Int) := by omega
  go_wp2_with fail
  obtain ⟨W4, hW4⟩ : ∃ W4, w6.setCell ⟨w.heap.size + 1, 0, none⟩ (.int .i64 7) = W4 := ⟨_, rfl⟩
  have hcW : Chg (fun k => k = w.heap.size + 1) w6 W4 := by rw [← hW4]; exact (Chg.refl (fun k => k = w.heap.size + 1) w6).setCell (p := ⟨w.heap.size + 1, 0, none⟩) (.inl rfl) _
  have q0 : W4.cell? ⟨w.heap.size, 0, none⟩ = some (.pointer (some ⟨b, 0, none⟩)) := hcW.cell r0 (by simp)
  have q1 : W4.cell? ⟨w.heap.size + 1, 0, none⟩ = some (.int .i64 7) := by rw [← hW4]; exact World.cell?_setCell_same _ _ _ r1
  have q2 : W4.cell? ⟨w.heap.size + 1 + 1, 0, none⟩ = some (.int .i64 ps.length) := hcW.cell r2 (by simp)
  rw [hW4]
  clear hW4 r0 r1 r2
  have hz5 := hg5.size
  have hS5 : ∀ k, S5 k → ¬ k = w.heap.size + 1 := fun k hk e => by
    rcases hsub5 k hk with hS | hle
    · exact hnS k (by omega) hS
    · omega
  have hC4 := hC5.kept hcW hS5
  refine leaves_cons (f := 84) (args := #[.pointer (some ⟨w.heap.size + 1, 0, none⟩), .pointer (some ⟨w.heap.size, 0, none⟩), .pointer (some ⟨w.heap.size + 1 + 1, 0, none⟩)]) (by simp) (by simp [go_sem]) ?_
  refine (lay1_back _ _ _ b g (ps.length + 1) cap ps.length 7 .returning _ q1 rfl q0 q2 hC4.c3 (hC4.fz 3) (by omega) hcap).mono ?_
  rintro e u' w'' ⟨rfl, rfl, rfl⟩
  have hr : (W4.drew.setCell ⟨b, 3, none⟩ (.slice (some ⟨g, 0, none⟩) ps.length cap)).cell? ⟨w.heap.size + 1, 0, none⟩ = some (.int .i64 7) := (World.cell?_setCell_other _ _ _ _ (by simp)).trans q1
  obtain ⟨S', a1, a2, a3⟩ := hC4.setP (w1 := W4.drew) (ps' := ps) (Chg.drew (Chg.refl _ _)) (g := g) (cap := cap) (Chg.row (S := fun _ => False) (Chg.drew (Chg.refl _ _)) (row_cut (xs := ps.map I64) (ys := [I64 p]) (k := ps.length) (by simpa using hC4.prow) (by omega) (by simp)) (fun _ _ hf => hf)) (.inl rfl) (Nat.lt_of_lt_of_le (hC4.lt g (hC4.inp g rfl)) (Nat.le_refl _))
  obtain ⟨W5, hW5⟩ : ∃ W5, W4.drew.setCell ⟨b, 3, none⟩ (.slice (some ⟨g, 0, none⟩) ps.length cap) = W5 := ⟨_, rfl⟩
  rw [hW5] at hr a1 a2 ⊢
  clear hW5
  have hc4 : Chg S w W4 := ((Chg.of_below S hB3).trans hg5).then hcW (fun k e => .inr (by omega))
  refine ⟨.tuple #[.int .i64 0, .int .i64 7], ?_, rfl, S', _, a1, hc4.then a2 (fun k hk => (hsub5 k hk).imp id (fun hle => by omega)), fun k hk => (a3 k hk).elim (fun h5 => (hsub5 k h5).imp id (fun hle => by omega)) (fun hle => .inr (Nat.le_trans hc4.size hle))⟩
  simp [results, Tryz.results49, go_sem, hr]

set_option maxRecDepth 100000 in
set_option maxHeartbeats 1000000 in
theorem lay_ok (b : Nat) (S : Nat → Prop) (ws ps : List Int) (vs : List Vt) (wv pv vv : Value) (p : Int) (w : World) (h : CourtAt w b S 1 ws ps vs wv pv vv) (h0 : 0 < ps.length) (hyes : hasB ps.length p = true) (hroom : ps.length < 40) :
    Calls Tryz.prog 49 #[.pointer (some ⟨b, 0, none⟩), .int .i64 p] w fun e w' => e = .returned (.tuple #[.int .i64 ps.length, .int .i64 0]) ∧
      ∃ (S' : Nat → Prop) (pv' : Value), CourtAt w' b S' 1 ws (ps ++ [p]) vs wv pv' vv ∧ Chg S w w' ∧ (∀ k, S' k → S k ∨ w.heap.size ≤ k) := by
  have hbl := h.lt b h.inb
  have h3 := h.c3
  have hf3 := h.fz 3
  obtain ⟨g0, cap0, rfl, hle0, hm0, hcs0, _⟩ := row_open h.prow h0
  clear hm0 hcs0
  have hmf : ∀ (fn : Fn) (first cap : Array Value) (w : World), (Instr.makeFunc fn first cap).run Tryz.prog w = .ok (.func fn first cap) w := fun _ _ _ _ => rfl
  go_enter_defers Tryz.func49, Tryz.ntmps49
  go_wp2_with (go_at_call 83; refine (count_at b 3 (some ⟨g0, 0, none⟩) ps.length cap0 _ ?_).mono ?_; (simpa [go_sem, hbl] using h3); rintro e w' ⟨rfl, rfl⟩)
  obtain ⟨W3, hW3⟩ : ∃ W3, ((w.alloc (.cells #[.pointer (some ⟨b, 0, none⟩)] 26)).alloc (.cells #[.int .i64 0] 42)).alloc (.cells #[.int .i64 ps.length] 3) = W3 := ⟨_, rfl⟩
  have hs3 : W3.heap.size = w.heap.size + 1 + 1 + 1 := by rw [← hW3]; simp
  have k0 : W3.cell? ⟨w.heap.size, 0, none⟩ = some (.pointer (some ⟨b, 0, none⟩)) := by rw [← hW3]; simp [go_sem]
  have k1 : W3.cell? ⟨w.heap.size + 1, 0, none⟩ = some (.int .i64 0) := by rw [← hW3]; simp [go_sem]
  have f1 : W3.frozen? ⟨w.heap.size + 1, 0, none⟩ = false := by rw [← hW3]; simp [go_sem]
  have k2 : W3.cell? ⟨w.heap.size + 1 + 1, 0, none⟩ = some (.int .i64 ps.length) := by rw [← hW3]; simp [go_sem]
  have hB3 : Below w.heap.size w W3 := by rw [← hW3]; exact (((Below.refl _ w).alloc (Nat.le_refl _) _).alloc (by simp) _).alloc (by simp; omega) _
  rw [hW3]
  clear hW3
  have hC3 := h.kept (Chg.of_below (fun _ => False) hB3) (fun _ _ hf => hf)
  have h33 := hC3.c3
  have hf33 := hC3.fz 3
  refine (has_at b 3 (some ⟨g0, 0, none⟩) ps.length cap0 _ _ h33).mono ?_
  rintro e w' ⟨rfl, rfl⟩
  rw [hyes]
  go_wp2_with fail
  refine (treeLay_at b S 1 ws ps vs wv _ vv p _ hC3 h0 (by omega)).mono ?_
  rintro e w5 ⟨rfl, S5, g, cap, hC5, hg5, hsub5⟩
  have hnS : ∀ k, w.heap.size ≤ k → ¬ S k := fun k hk hS => by have := h.lt k hS; omega
  have r0 : w5.cell? ⟨w.heap.size, 0, none⟩ = some (.pointer (some ⟨b, 0, none⟩)) := hg5.cell k0 (hnS _ (by simp))
  have r1 : w5.cell? ⟨w.heap.size + 1, 0, none⟩ = some (.int .i64 0) := hg5.cell k1 (hnS _ (by simp))
  have r2 : w5.cell? ⟨w.heap.size + 1 + 1, 0, none⟩ = some (.int .i64 ps.length) := hg5.cell k2 (hnS _ (by simp; omega))
  have f5 : w5.frozen? ⟨w.heap.size + 1, 0, none⟩ = false := (World.frozen?_of_block (hg5.block (w.heap.size + 1) (by omega) (hnS _ (by simp)))).trans f1
  have c5 := hC5.c3
  clear k0 k1 k2 f1 h33 hf33 hC3
  have hcap : ps.length + 1 ≤ cap := by
    rcases hC5.prow.2 with ⟨h', _⟩ | ⟨_, _, _, h', _, _, hle, _⟩
    · simp at h'
    · simp only [Value.slice.injEq, Option.some.injEq, Addr.mk.injEq] at h'
      obtain ⟨_, _, rfl⟩ := h'
      simpa using hle
  have c5' : w5.cell? ⟨b, 3, none⟩ = some (.slice (some ⟨g, 0, none⟩) (ps.length + 1) cap) := c5
  clear c5
  go_wp2_with fail
  refine (count_at b 3 (some ⟨g, 0, none⟩) (ps.length + 1) cap _ c5').mono ?_
  rintro e w6 ⟨rfl, rfl⟩
  have hgt : ((ps.length + 1 : Nat) : Int) ≤ 40 := by omega
  go_wp2_with fail
  obtain ⟨W4, hW4⟩ : ∃ W4, w6.setCell ⟨w.heap.size + 1, 0, none⟩ (.int .i64 0) = W4 := ⟨_, rfl⟩
  have hcW : Chg (fun k => k = w.heap.size + 1) w6 W4 := by rw [← hW4]; exact (Chg.refl (fun k => k = w.heap.size + 1) w6).setCell (p := ⟨w.heap.size + 1, 0, none⟩) (.inl rfl) _
  have q1 : W4.cell? ⟨w.heap.size + 1, 0, none⟩ = some (.int .i64 0) := by rw [← hW4]; exact World.cell?_setCell_same _ _ _ r1
  rw [hW4]
  clear hW4 r0 r1 r2
  have hz5 := hg5.size
  have hS5 : ∀ k, S5 k → ¬ k = w.heap.size + 1 := fun k hk e => by
    rcases hsub5 k hk with hS | hle
    · exact hnS k (by omega) hS
    · omega
  have hC4 := hC5.kept hcW hS5
  refine leaves_cons (f := 84) (args := #[.pointer (some ⟨w.heap.size + 1, 0, none⟩), .pointer (some ⟨w.heap.size, 0, none⟩), .pointer (some ⟨w.heap.size + 1 + 1, 0, none⟩)]) (by simp) (by simp [go_sem]) ?_
  refine (lay1_ok _ _ _ .returning _ q1).mono ?_
  rintro e u' w'' ⟨rfl, rfl, rfl⟩
  have hc4 : Chg S w w'' := ((Chg.of_below S hB3).trans hg5).then hcW (fun k e => .inr (by omega))
  refine ⟨.tuple #[.int .i64 ps.length, .int .i64 0], ?_, rfl, S5, _, hC4, hc4, fun k hk => (hsub5 k hk).imp id (fun hle => by omega)⟩
  simp [results, Tryz.results49, go_sem, q1]

end Go.Proofs.YtgebcnnenhgkcaaGreat
/- Vote's inner parts: a vote is given, and taken back where there are too many. -/
namespace Go.Proofs.YtgebcnnenhgkcaaGreat
open Go.RowKit

theorem give1_ok (F C B : Nat) (u : FrameMode) (w : World) (hF : w.cell? ⟨F, 0, none⟩ = some (.int .i64 0)) :
    CallsD Tryz.prog 88 #[.pointer (some ⟨F, 0, none⟩), .pointer (some ⟨C, 0, none⟩), .pointer (some ⟨B, 0, none⟩)] u w fun e u' w' => u' = u ∧ (e = .returned (.tuple #[]) ∧ w' = w) := by
  go_enter_d Tryz.func88, Tryz.ntmps88
  go_wp2
  go_end0
  exact ⟨rfl, rfl⟩

set_option maxHeartbeats 1000000 in
theorem give1_back (F C B b g n cap k : Nat) (f : Int) (u : FrameMode) (w : World) (hF : w.cell? ⟨F, 0, none⟩ = some (.int .i64 f)) (hf0 : (f != 0) = true) (hC : w.cell? ⟨C, 0, none⟩ = some (.pointer (some ⟨b, 0, none⟩))) (hB : w.cell? ⟨B, 0, none⟩ = some (.int .i64 k))
    (hc : w.cell? ⟨b, 4, none⟩ = some (.slice (some ⟨g, 0, none⟩) n cap)) (hf : w.frozen? ⟨b, 4, none⟩ = false) (hk : k ≤ n) (hn : n ≤ cap) :
    CallsD Tryz.prog 88 #[.pointer (some ⟨F, 0, none⟩), .pointer (some ⟨C, 0, none⟩), .pointer (some ⟨B, 0, none⟩)] u w fun e u' w' => u' = u ∧ (e = .returned (.tuple #[]) ∧ w' = w.drew.setCell ⟨b, 4, none⟩ (.slice (some ⟨g, 0, none⟩) k cap)) := by
  have h1 : (k : Int) ≤ (cap : Int) := by omega
  have h2 : (0 : Int) ≤ (k : Int) := by omega
  go_enter_d Tryz.func88, Tryz.ntmps88
  go_wp2
  go_region
  all_goals (go_wp2; go_end0; exact ⟨rfl, rfl⟩)

set_option maxHeartbeats 1000000 in
theorem give1_back_nil (F C B b : Nat) (f : Int) (u : FrameMode) (w : World) (hF : w.cell? ⟨F, 0, none⟩ = some (.int .i64 f)) (hf0 : (f != 0) = true) (hC : w.cell? ⟨C, 0, none⟩ = some (.pointer (some ⟨b, 0, none⟩))) (hB : w.cell? ⟨B, 0, none⟩ = some (.int .i64 0))
    (hc : w.cell? ⟨b, 4, none⟩ = some (.slice none 0 0)) (hf : w.frozen? ⟨b, 4, none⟩ = false) :
    CallsD Tryz.prog 88 #[.pointer (some ⟨F, 0, none⟩), .pointer (some ⟨C, 0, none⟩), .pointer (some ⟨B, 0, none⟩)] u w fun e u' w' => u' = u ∧ (e = .returned (.tuple #[]) ∧ w' = w.drew.setCell ⟨b, 4, none⟩ (.slice none 0 0)) := by
  go_enter_d Tryz.func88, Tryz.ntmps88
  go_wp2
  go_region
  all_goals (go_wp2; go_end0; exact ⟨rfl, rfl⟩)

theorem CourtAt.fault {w : World} {b : Nat} {S : Nat → Prop} {m : Int} {ws ps : List Int} {vs : List Vt} {wv pv vv : Value} (h : CourtAt w b S m ws ps vs wv pv vv) (hT : Tree ps) (hw : 0 < ws.length) (hl : vs.length ≤ 301) :
    ∃ wp wc g gc, FaultAt w b ws.length ps vs wp wc g gc vv := by
  obtain ⟨gw, capw, rfl, _, _, _, _⟩ := row_open h.wrow hw
  obtain ⟨g0, cap0, rfl, hle0, hm0, hcs0, _⟩ := row_open h.prow hT.1
  refine ⟨_, _, _, _, h.c2, ⟨h.c3, hcs0⟩, h.c4, ?_, hT, hl⟩
  by_cases hv : 0 < vs.length
  · obtain ⟨gv, cap, rfl, _, _, hc, _⟩ := vrow_open h.vrow hv
    exact .inr ⟨gv, cap, rfl, hv, hc⟩
  · have : vs = [] := List.eq_nil_of_length_eq_zero (by omega)
    subst this
    rcases h.vrow.2 with ⟨h', _⟩ | ⟨g, cap, cur, rfl, _⟩
    · exact .inl ⟨⟨_, _, h'⟩, rfl⟩
    · exact .inl ⟨⟨_, _, rfl⟩, rfl⟩

/-- The votes' slice stored again as it was. -/
theorem CourtAt.again4 {w : World} {b : Nat} {S : Nat → Prop} {m : Int} {ws ps : List Int} {vs : List Vt} {wv pv vv : Value} (h : CourtAt w b S m ws ps vs wv pv vv) :
    CourtAt (w.setCell ⟨b, 4, none⟩ vv) b S m ws ps vs wv pv vv ∧ Chg S w (w.setCell ⟨b, 4, none⟩ vv) := by
  have hwb : wv.ownBlock ≠ some b := not_row h.wrow h.heap (by decide)
  have hpb : pv.ownBlock ≠ some b := not_row h.prow h.heap (by decide)
  have hvb : vv.ownBlock ≠ some b := not_row h.vrow h.heap (by decide)
  refine ⟨⟨?_, row_setCell h.wrow _ _ hwb, row_setCell h.prow _ _ hpb, row_setCell h.vrow _ _ hvb, h.inb, h.inw, h.inp, h.inv, fun k hk => by simpa [World.setCell] using h.lt k hk, ?_, h.apart⟩, (Chg.refl _ w).setCell (p := ⟨b, 4, none⟩) (.inl h.inb) _⟩
  · rw [heap_setCell_same w b 4 _ _ _ h.heap]; rfl
  · intro k o hk ho
    by_cases e : k = b
    · subst e
      rw [heap_setCell_same w k 4 _ _ _ h.heap] at ho
      simp at ho; subst ho; rfl
    · rw [Below.heap_setCell _ _ _ _ e] at ho
      exact h.cells k o hk ho

theorem give1_same (F C B b : Nat) (S : Nat → Prop) (m : Int) (ws ps : List Int) (vs : List Vt) (wv pv vv : Value) (f : Int) (w : World) (h : CourtAt w b S m ws ps vs wv pv vv) (hF : w.cell? ⟨F, 0, none⟩ = some (.int .i64 f)) (hf0 : (f != 0) = true) (hC : w.cell? ⟨C, 0, none⟩ = some (.pointer (some ⟨b, 0, none⟩))) (hB : w.cell? ⟨B, 0, none⟩ = some (.int .i64 vs.length)) :
    CallsD Tryz.prog 88 #[.pointer (some ⟨F, 0, none⟩), .pointer (some ⟨C, 0, none⟩), .pointer (some ⟨B, 0, none⟩)] .returning w fun e u' w' => u' = .returning ∧ (e = .returned (.tuple #[]) ∧ w' = w.drew.setCell ⟨b, 4, none⟩ vv) := by
  rcases h.vrow.2 with ⟨h', h''⟩ | ⟨g, cap, cur, h', _, _, hle, _⟩
  · subst h'
    exact give1_back_nil F C B b f .returning w hF hf0 hC (by rw [hB, h'']; rfl) h.c4 (h.fz 4)
  · subst h'
    exact give1_back F C B b g vs.length cap vs.length f .returning w hF hf0 hC hB h.c4 (h.fz 4) (Nat.le_refl _) hle

set_option maxRecDepth 100000 in
set_option maxHeartbeats 1000000 in
theorem give_fault (b : Nat) (S : Nat → Prop) (ws ps : List Int) (vs : List Vt) (wv pv vv : Value) (x : Vt) (w : World) (h : CourtAt w b S 1 ws ps vs wv pv vv) (hT : Tree ps) (hw : 0 < ws.length) (hl : vs.length ≤ 300) (f : Int) (hfa : fault ws.length ps vs x = f) (hf0 : (f != 0) = true) :
    Calls Tryz.prog 50 #[.pointer (some ⟨b, 0, none⟩), x.val] w fun e w' => e = .returned (.int .i64 f) ∧
      ∃ (S' : Nat → Prop) (vv' : Value), CourtAt w' b S' 1 ws ps vs wv pv vv' ∧ Chg S w w' ∧ (∀ k, S' k → S k ∨ w.heap.size ≤ k) := by
  have hbl := h.lt b h.inb
  have h4 := h.c4
  have hb1 : b < w.heap.size + 1 := by omega
  have hb2 : b < w.heap.size + 1 + 1 := by omega
  have hb3 : b < w.heap.size + 1 + 1 + 1 := by omega
  obtain ⟨vp, vc, hvv⟩ : ∃ vp vc, vv = .slice vp vs.length vc := by
    rcases h.vrow.2 with ⟨h', h''⟩ | ⟨g, cap, cur, h', _⟩
    · exact ⟨none, 0, by rw [h', h'']⟩
    · exact ⟨_, _, h'⟩
  subst hvv
  have hmf : ∀ (fn : Fn) (first cap : Array Value) (w : World), (Instr.makeFunc fn first cap).run Tryz.prog w = .ok (.func fn first cap) w := fun _ _ _ _ => rfl
  go_enter_defers Tryz.func50, Tryz.ntmps50
  go_wp2_with fail
  obtain ⟨W3, hW3⟩ : ∃ W3, (((w.alloc (.cells #[.pointer (some ⟨b, 0, none⟩)] 26)).alloc (.cells #[I64 x.v, I64 x.s, I64 x.t] 47)).alloc (.cells #[.int .i64 0] 42)).alloc (.cells #[.int .i64 vs.length] 3) = W3 := ⟨_, rfl⟩
  have hs3 : W3.heap.size = w.heap.size + 1 + 1 + 1 + 1 := by rw [← hW3]; simp
  have k0 : W3.cell? ⟨w.heap.size, 0, none⟩ = some (.pointer (some ⟨b, 0, none⟩)) := by rw [← hW3]; simp [go_sem]
  have kx0 : W3.cell? ⟨w.heap.size + 1, 0, none⟩ = some (I64 x.v) := by rw [← hW3]; simp [go_sem]
  have kx1 : W3.cell? ⟨w.heap.size + 1, 1, none⟩ = some (I64 x.s) := by rw [← hW3]; simp [go_sem]
  have kx2 : W3.cell? ⟨w.heap.size + 1, 2, none⟩ = some (I64 x.t) := by rw [← hW3]; simp [go_sem]
  have k1 : W3.cell? ⟨w.heap.size + 1 + 1, 0, none⟩ = some (.int .i64 0) := by rw [← hW3]; simp [go_sem]
  have f1 : W3.frozen? ⟨w.heap.size + 1 + 1, 0, none⟩ = false := by rw [← hW3]; simp [go_sem]
  have k2 : W3.cell? ⟨w.heap.size + 1 + 1 + 1, 0, none⟩ = some (.int .i64 vs.length) := by rw [← hW3]; simp [go_sem]
  have hB3 : Below w.heap.size w W3 := by rw [← hW3]; exact ((((Below.refl _ w).alloc (Nat.le_refl _) _).alloc (by simp) _).alloc (by simp; omega) _).alloc (by simp; omega) _
  rw [hW3]
  clear hW3
  have hC3 := h.kept (Chg.of_below (fun _ => False) hB3) (fun _ _ hf => hf)
  obtain ⟨wp, wc, g, gc, hFA⟩ := hC3.fault hT hw (by omega)
  refine (faultOf_at b ws.length ps vs wp wc g gc _ x _ hFA).mono ?_
  rintro e w4 ⟨rfl, hB4⟩
  have m0 : w4.cell? ⟨w.heap.size, 0, none⟩ = some (.pointer (some ⟨b, 0, none⟩)) := (hB4.cell (p := ⟨w.heap.size, 0, none⟩) (by simp; omega)).trans k0
  have mx0 : w4.cell? ⟨w.heap.size + 1, 0, none⟩ = some (I64 x.v) := (hB4.cell (p := ⟨w.heap.size + 1, 0, none⟩) (by simp; omega)).trans kx0
  have mx1 : w4.cell? ⟨w.heap.size + 1, 1, none⟩ = some (I64 x.s) := (hB4.cell (p := ⟨w.heap.size + 1, 1, none⟩) (by simp; omega)).trans kx1
  have mx2 : w4.cell? ⟨w.heap.size + 1, 2, none⟩ = some (I64 x.t) := (hB4.cell (p := ⟨w.heap.size + 1, 2, none⟩) (by simp; omega)).trans kx2
  have m1 : w4.cell? ⟨w.heap.size + 1 + 1, 0, none⟩ = some (.int .i64 0) := (hB4.cell (p := ⟨w.heap.size + 1 + 1, 0, none⟩) (by simp; omega)).trans k1
  have mf1 : w4.frozen? ⟨w.heap.size + 1 + 1, 0, none⟩ = false := (hB4.frozen (p := ⟨w.heap.size + 1 + 1, 0, none⟩) (by simp; omega)).trans f1
  have m2 : w4.cell? ⟨w.heap.size + 1 + 1 + 1, 0, none⟩ = some (.int .i64 vs.length) := (hB4.cell (p := ⟨w.heap.size + 1 + 1 + 1, 0, none⟩) (by simp; omega)).trans k2
  have hB4' : Below w.heap.size w w4 := hB3.trans (hB4.mono (by omega))
  have hs4 : w.heap.size + 1 + 1 + 1 + 1 ≤ w4.heap.size := by have := hB4.size; omega
  clear k0 kx0 kx1 kx2 k1 f1 k2 hC3 hFA hB4 hB3 hs3
  rw [hfa]
  go_wp2_with fail
  obtain ⟨W4, hW4⟩ : ∃ W4, (w4.setCell ⟨w.heap.size + 1 + 1, 0, none⟩ (.int .i64 f)).setCell ⟨w.heap.size + 1 + 1, 0, none⟩ (.int .i64 f) = W4 := ⟨_, rfl⟩
  have hB5 : Below w.heap.size w W4 := by rw [← hW4]; exact (hB4'.setCell (p := ⟨w.heap.size + 1 + 1, 0, none⟩) (by simp; omega) _).setCell (p := ⟨w.heap.size + 1 + 1, 0, none⟩) (by simp; omega) _
  have q0 : W4.cell? ⟨w.heap.size, 0, none⟩ = some (.pointer (some ⟨b, 0, none⟩)) := by rw [← hW4, World.cell?_setCell_other _ _ _ _ (by simp), World.cell?_setCell_other _ _ _ _ (by simp)]; exact m0
  have q1 : W4.cell? ⟨w.heap.size + 1 + 1, 0, none⟩ = some (.int .i64 f) := by rw [← hW4]; exact World.cell?_setCell_same _ _ _ (World.cell?_setCell_same _ _ _ m1)
  have q2 : W4.cell? ⟨w.heap.size + 1 + 1 + 1, 0, none⟩ = some (.int .i64 vs.length) := by rw [← hW4, World.cell?_setCell_other _ _ _ _ (by simp), World.cell?_setCell_other _ _ _ _ (by simp)]; exact m2
  rw [hW4]
  clear hW4 m0 mx0 mx1 mx2 m1 mf1 m2
  have hC4 := h.kept (Chg.of_below (fun _ => False) hB5) (fun _ _ hf => hf)
  have hC5 := hC4.kept (w' := W4.drew) (T := fun _ => False) (Chg.drew (Chg.refl _ _)) (fun _ _ hf => hf)
  refine leaves_cons (f := 88) (args := #[.pointer (some ⟨w.heap.size + 1 + 1, 0, none⟩), .pointer (some ⟨w.heap.size, 0, none⟩), .pointer (some ⟨w.heap.size + 1 + 1 + 1, 0, none⟩)]) (by simp) (by simp [go_sem]) ?_
  refine (give1_same _ _ _ b S 1 ws ps vs wv pv _ f _ hC4 q1 hf0 q0 q2).mono ?_
  rintro e u' w'' ⟨rfl, rfl, rfl⟩
  have hr : (W4.drew.setCell ⟨b, 4, none⟩ (.slice vp vs.length vc)).cell? ⟨w.heap.size + 1 + 1, 0, none⟩ = some (.int .i64 f) := (World.cell?_setCell_other _ _ _ _ (by simp)).trans q1
  obtain ⟨a1, a2⟩ := hC5.again4
  obtain ⟨W5, hW5⟩ : ∃ W5, W4.drew.setCell ⟨b, 4, none⟩ (.slice vp vs.length vc) = W5 := ⟨_, rfl⟩
  rw [hW5] at hr a1 a2 ⊢
  clear hW5
  refine ⟨.int .i64 f, ?_, rfl, S, _, a1, (Chg.of_below S hB5.drew).trans a2, fun k hk => .inl hk⟩
  simp [results, Tryz.results50, go_sem, hr]
end Go.Proofs.YtgebcnnenhgkcaaGreat
/- Vote's inner part where nothing speaks against the vote: it is appended, and taken back where there are too many. -/
namespace Go.Proofs.YtgebcnnenhgkcaaGreat
open Go.RowKit

/-- Where nothing else speaks against a vote: there may be too many. -/
def manyE (vs : List Vt) : Int := if 300 ≤ vs.length then 7 else 0
def manyV (vs : List Vt) (x : Vt) : List Vt := if 300 ≤ vs.length then vs else vs ++ [x]
theorem many_full {vs : List Vt} (x : Vt) (h : 300 ≤ vs.length) : manyE vs = 7 ∧ manyV vs x = vs := by simp [manyE, manyV, h]
theorem many_room {vs : List Vt} (x : Vt) (h : ¬ 300 ≤ vs.length) : manyE vs = 0 ∧ manyV vs x = vs ++ [x] := by simp [manyE, manyV, h]

set_option maxRecDepth 100000 in
set_option maxHeartbeats 8000000 in
theorem give_app (b : Nat) (S : Nat → Prop) (ws ps : List Int) (vs : List Vt) (wv pv vv : Value) (x : Vt) (w : World) (h : CourtAt w b S 1 ws ps vs wv pv vv) (hT : Tree ps) (hw : 0 < ws.length) (hl : vs.length ≤ 300) (hfa : fault ws.length ps vs x = 0) :
    Calls Tryz.prog 50 #[.pointer (some ⟨b, 0, none⟩), x.val] w fun e w' => e = .returned (.int .i64 (manyE vs)) ∧
      ∃ (S' : Nat → Prop) (vv' : Value), CourtAt w' b S' 1 ws ps (manyV vs x) wv pv vv' ∧ Chg S w w' ∧ (∀ k, S' k → S k ∨ w.heap.size ≤ k) := by
  have hbl := h.lt b h.inb
  have h4 := h.c4
  have hb1 : b < w.heap.size + 1 := by omega
  have hb2 : b < w.heap.size + 1 + 1 := by omega
  have hb3 : b < w.heap.size + 1 + 1 + 1 := by omega
  obtain ⟨vp, vc, hvv⟩ : ∃ vp vc, vv = .slice vp vs.length vc := by
    rcases h.vrow.2 with ⟨h', h''⟩ | ⟨g, cap, cur, h', _⟩
    · exact ⟨none, 0, by rw [h', h'']⟩
    · exact ⟨_, _, h'⟩
  subst hvv
  have hmf : ∀ (fn : Fn) (first cap : Array Value) (w : World), (Instr.makeFunc fn first cap).run Tryz.prog w = .ok (.func fn first cap) w := fun _ _ _ _ => rfl
  go_enter_defers Tryz.func50, Tryz.ntmps50
  go_wp2_with fail
  obtain ⟨W3, hW3⟩ : ∃ W3, (((w.alloc (.cells #[.pointer (some ⟨b, 0, none⟩)] 26)).alloc (.cells #[I64 x.v, I64 x.s, I64 x.t] 47)).alloc (.cells #[.int .i64 0] 42)).alloc (.cells #[.int .i64 vs.length] 3) = W3 := ⟨_, rfl⟩
  have hs3 : W3.heap.size = w.heap.size + 1 + 1 + 1 + 1 := by rw [← hW3]; simp
  have k0 : W3.cell? ⟨w.heap.size, 0, none⟩ = some (.pointer (some ⟨b, 0, none⟩)) := by rw [← hW3]; simp [go_sem]
  have kx0 : W3.cell? ⟨w.heap.size + 1, 0, none⟩ = some (I64 x.v) := by rw [← hW3]; simp [go_sem]
  have kx1 : W3.cell? ⟨w.heap.size + 1, 1, none⟩ = some (I64 x.s) := by rw [← hW3]; simp [go_sem]
  have kx2 : W3.cell? ⟨w.heap.size + 1, 2, none⟩ = some (I64 x.t) := by rw [← hW3]; simp [go_sem]
  have k1 : W3.cell? ⟨w.heap.size + 1 + 1, 0, none⟩ = some (.int .i64 0) := by rw [← hW3]; simp [go_sem]
  have f1 : W3.frozen? ⟨w.heap.size + 1 + 1, 0, none⟩ = false := by rw [← hW3]; simp [go_sem]
  have k2 : W3.cell? ⟨w.heap.size + 1 + 1 + 1, 0, none⟩ = some (.int .i64 vs.length) := by rw [← hW3]; simp [go_sem]
  have hB3 : Below w.heap.size w W3 := by rw [← hW3]; exact ((((Below.refl _ w).alloc (Nat.le_refl _) _).alloc (by simp) _).alloc (by simp; omega) _).alloc (by simp; omega) _
  rw [hW3]
  clear hW3
  have hC3 := h.kept (Chg.of_below (fun _ => False) hB3) (fun _ _ hf => hf)
  obtain ⟨wp, wc, g, gc, hFA⟩ := hC3.fault hT hw (by omega)
  refine (faultOf_at b ws.length ps vs wp wc g gc _ x _ hFA).mono ?_
  rintro e w4 ⟨rfl, hB4⟩
  have m0 : w4.cell? ⟨w.heap.size, 0, none⟩ = some (.pointer (some ⟨b, 0, none⟩)) := (hB4.cell (p := ⟨w.heap.size, 0, none⟩) (by simp; omega)).trans k0
  have mx0 : w4.cell? ⟨w.heap.size + 1, 0, none⟩ = some (I64 x.v) := (hB4.cell (p := ⟨w.heap.size + 1, 0, none⟩) (by simp; omega)).trans kx0
  have mx1 : w4.cell? ⟨w.heap.size + 1, 1, none⟩ = some (I64 x.s) := (hB4.cell (p := ⟨w.heap.size + 1, 1, none⟩) (by simp; omega)).trans kx1
  have mx2 : w4.cell? ⟨w.heap.size + 1, 2, none⟩ = some (I64 x.t) := (hB4.cell (p := ⟨w.heap.size + 1, 2, none⟩) (by simp; omega)).trans kx2
  have m1 : w4.cell? ⟨w.heap.size + 1 + 1, 0, none⟩ = some (.int .i64 0) := (hB4.cell (p := ⟨w.heap.size + 1 + 1, 0, none⟩) (by simp; omega)).trans k1
  have mf1 : w4.frozen? ⟨w.heap.size + 1 + 1, 0, none⟩ = false := (hB4.frozen (p := ⟨w.heap.size + 1 + 1, 0, none⟩) (by simp; omega)).trans f1
  have m2 : w4.cell? ⟨w.heap.size + 1 + 1 + 1, 0, none⟩ = some (.int .i64 vs.length) := (hB4.cell (p := ⟨w.heap.size + 1 + 1 + 1, 0, none⟩) (by simp; omega)).trans k2
  have hB4' : Below w.heap.size w w4 := hB3.trans (hB4.mono (by omega))
  have hs4 : w.heap.size + 1 + 1 + 1 + 1 ≤ w4.heap.size := by have := hB4.size; omega
  clear k0 kx0 kx1 kx2 k1 f1 k2 hC3 hFA hB4 hB3 hs3
  rw [hfa]
  obtain ⟨i0, hi, hz0, hz1, hz2⟩ := info_parts info_vote
  have h63 : Hid (vs.length + 1 ≤ maxLen) := by show _ ≤ _; unfold maxLen; omega
  have hbw4 : b < w4.heap.size := by omega
  go_wp2_with fail
  obtain ⟨W4, hW4⟩ : ∃ W4, w4.setCell ⟨w.heap.size + 1 + 1, 0, none⟩ (.int .i64 0) = W4 := ⟨_, rfl⟩
  have hB5 : Below w.heap.size w W4 := by rw [← hW4]; exact hB4'.setCell (p := ⟨w.heap.size + 1 + 1, 0, none⟩) (by simp; omega) _
  have hs5 : w.heap.size + 1 + 1 + 1 + 1 ≤ W4.heap.size := by rw [← hW4]; simpa [World.setCell] using hs4
  have q0 : W4.cell? ⟨w.heap.size, 0, none⟩ = some (.pointer (some ⟨b, 0, none⟩)) := by rw [← hW4, World.cell?_setCell_other _ _ _ _ (by simp)]; exact m0
  have qx0 : W4.cell? ⟨w.heap.size + 1, 0, none⟩ = some (I64 x.v) := by rw [← hW4, World.cell?_setCell_other _ _ _ _ (by simp)]; exact mx0
  have qx1 : W4.cell? ⟨w.heap.size + 1, 1, none⟩ = some (I64 x.s) := by rw [← hW4, World.cell?_setCell_other _ _ _ _ (by simp)]; exact mx1
  have qx2 : W4.cell? ⟨w.heap.size + 1, 2, none⟩ = some (I64 x.t) := by rw [← hW4, World.cell?_setCell_other _ _ _ _ (by simp)]; exact mx2
  have q1 : W4.cell? ⟨w.heap.size + 1 + 1, 0, none⟩ = some (.int .i64 0) := by rw [← hW4]; exact World.cell?_setCell_same _ _ _ m1
  have qf1 : W4.frozen? ⟨w.heap.size + 1 + 1, 0, none⟩ = false := by rw [← hW4]; simpa using mf1
  have q2 : W4.cell? ⟨w.heap.size + 1 + 1 + 1, 0, none⟩ = some (.int .i64 vs.length) := by rw [← hW4, World.cell?_setCell_other _ _ _ _ (by simp)]; exact m2
  rw [hW4]
  clear hW4 m0 mx0 mx1 mx2 m1 mf1 m2 hbw4
  have hC4 := h.kept (Chg.of_below (fun _ => False) hB5) (fun _ _ hf => hf)
  have c4 := hC4.c4
  have z4 := hC4.fz 4
  have hbw : b < W4.heap.size := by omega
  have hlt0 : w.heap.size < W4.heap.size := by omega
  have hlt1 : w.heap.size + 1 < W4.heap.size := by omega
  have hlt2 : w.heap.size + 1 + 1 < W4.heap.size := by omega
  have hlt3 : w.heap.size + 1 + 1 + 1 < W4.heap.size := by omega
  have hnb : Value.ownBlock (.slice vp vs.length vc) ≠ some b := not_row hC4.vrow hC4.heap (by decide)
  have hnx : ∀ k, w.heap.size ≤ k → Value.ownBlock (.slice vp vs.length vc) ≠ some k := fun k hk e => by have := h.lt k (h.inv k e); omega
  have hnx0 := hnx w.heap.size (Nat.le_refl _)
  have hown : (W4.drew.alloc (.cells #[I64 x.v, I64 x.s, I64 x.t] 47)).ownsRow 0 47 3 (.slice vp vs.length vc) vs.length (vtRow vs) := (Chg.row (S := fun _ => False) (Chg.drew (Chg.refl _ _)) hC4.vrow (fun _ _ hf => hf)).alloc _
  have hown' : ((W4.alloc (.cells #[I64 x.v, I64 x.s, I64 x.t] 47)).drew).ownsRow 0 47 3 (.slice vp vs.length vc) vs.length (vtRow vs) := hown
  go_cut [] from 18 to 27 (fun wc => ∃ g1 cap1 w7, w7.ownsRow 0 47 3 (.slice (some ⟨g1, 0, none⟩) (vs.length + 1) cap1) (vs.length + 1) (vtRow vs ++ [I64 x.v, I64 x.s, I64 x.t]) ∧ (W4.alloc (.cells #[I64 x.v, I64 x.s, I64 x.t] 47)).drew.grownBy w7 (Value.ownBlock (.slice vp vs.length vc)) ∧ (Value.ownBlock (.slice vp vs.length vc) = some g1 ∨ g1 = W4.heap.size + 1) ∧ g1 < w7.heap.size ∧ wc = w7.setCell ⟨b, 4, none⟩ (.slice (some ⟨g1, 0, none⟩) (vs.length + 1) cap1))
  case first =>
    refine wp_region_noPanic ?_
    go_region_law ((refine step_append_lies _ (by rfl) _ _ _ (by rfl) 0 47 i0 (.agg #[I64 0, I64 0, I64 0]) 3 24 Tryz.underlying39 hi hz0 hz1 hz2 (by rfl) (by omega) (.slice vp vs.length vc) vs.length (vtRow vs) (by rfl) hown' ⟨W4.heap.size, 0, none⟩ 1 1 [I64 x.v, I64 x.s, I64 x.t] (by rfl) (by rfl) (World.news_of_block (cs := #[I64 x.v, I64 x.s, I64 x.t]) (heap_alloc_new W4 _)) (by simp [Value.oneCell']) (by omega) h63.out (by omega) (Nat.zero_le _) (W4.heap.size + 1) (by simp) ?_; intro g1 cap1 w7 hown7 hgrow hat hlt; have hb7 : w7.heap[b]? = W4.heap[b]? := (hgrow.block b (by simp; omega) (fun e => hnb e.symm)).trans (Below.heap_alloc W4 _ b hbw); have y4 : w7.cell? ⟨b, 4, none⟩ = some (.slice vp vs.length vc) := (World.cell?_of_block hb7).trans c4; have yf : w7.frozen? ⟨b, 4, none⟩ = false := (World.frozen?_of_block hb7).trans z4; have h07 : w7.heap[w.heap.size]? = W4.heap[w.heap.size]? := (hgrow.block w.heap.size (by simp; omega) (fun e => hnx0 e.symm)).trans (Below.heap_alloc W4 _ w.heap.size hlt0); have y0 : w7.cell? ⟨w.heap.size, 0, none⟩ = some (.pointer (some ⟨b, 0, none⟩)) := (World.cell?_of_block h07).trans q0; clear hb7 h07))
    all_goals refine NoPanic.normal ?_
    all_goals (go_wp2; go_meet; exact ⟨_, _, _, hown7, hgrow, hat, hlt, rfl⟩)
  case rest =>
    obtain ⟨g1, cap1, w7, hown7, hgrow, hat, hlt, rfl⟩ := hcut
    have hcg : Chg (fun k => Value.ownBlock (.slice vp vs.length vc) = some k) W4 w7 := ((Chg.refl _ W4).alloc _).drew.grown hgrow (fun k e => .inl e)
    have hvr : vtRow vs ++ [I64 x.v, I64 x.s, I64 x.t] = vtRow (vs ++ [x]) := by simp [vtRow, vtCells]
    have hown8 : w7.ownsRow 0 47 3 (.slice (some ⟨g1, 0, none⟩) (vs ++ [x]).length cap1) (vs ++ [x]).length (vtRow (vs ++ [x])) := by
      rw [← hvr]; simpa using hown7
    obtain ⟨S8, hC8, c8, s8⟩ := hC4.setV (vs' := vs ++ [x]) hcg (g := g1) (cap := cap1) hown8 (hat.elim .inl (fun e => .inr (by omega))) hlt
    have hle8 : vs.length + 1 ≤ cap1 := by
      rcases hown7.2 with ⟨h', _⟩ | ⟨_, _, _, h', _, _, hle, _⟩
      · simp at h'
      · simp only [Value.slice.injEq, Option.some.injEq, Addr.mk.injEq] at h'
        obtain ⟨_, _, rfl⟩ := h'
        exact hle
    have hlen8 : (vs ++ [x]).length = vs.length + 1 := by simp
    rw [hlen8] at hC8 c8
    obtain ⟨W8, hW8⟩ : ∃ W8, w7.setCell ⟨b, 4, none⟩ (.slice (some ⟨g1, 0, none⟩) (vs.length + 1) cap1) = W8 := ⟨_, rfl⟩
    rw [hW8] at hC8 c8 ⊢
    clear hW8 hown8 hvr hcg hgrow hown7 hlen8
    have hnS : ∀ k, w.heap.size ≤ k → ¬ S k := fun k hk hS => by have := h.lt k hS; omega
    have r0 : W8.cell? ⟨w.heap.size, 0, none⟩ = some (.pointer (some ⟨b, 0, none⟩)) := c8.cell q0 (hnS _ (by simp))
    have r1 : W8.cell? ⟨w.heap.size + 1 + 1, 0, none⟩ = some (.int .i64 0) := c8.cell q1 (hnS _ (by simp; omega))
    have rf1 : W8.frozen? ⟨w.heap.size + 1 + 1, 0, none⟩ = false := (World.frozen?_of_block (c8.block (w.heap.size + 1 + 1) hlt2 (hnS _ (by omega)))).trans qf1
    have r2 : W8.cell? ⟨w.heap.size + 1 + 1 + 1, 0, none⟩ = some (.int .i64 vs.length) := c8.cell q2 (hnS _ (by simp; omega))
    have r4 : W8.cell? ⟨b, 4, none⟩ = some (.slice (some ⟨g1, 0, none⟩) (vs.length + 1) cap1) := hC8.c4
    have hz8 := c8.size
    have hS8 : ∀ k, S8 k → ¬ k = w.heap.size + 1 + 1 := fun k hk e => by
      rcases s8 k hk with hS | hle
      · exact hnS k (by omega) hS
      · omega
    clear q0 qx0 qx1 qx2 q1 qf1 q2 c4 z4 hown hown' hnx0
    by_cases hfull : 300 ≤ vs.length
    · have hgt : (300 : Int) < ((vs.length + 1 : Nat) : Int) := by omega
      go_wp2_with fail
      obtain ⟨W9, hW9⟩ : ∃ W9, W8.setCell ⟨w.heap.size + 1 + 1, 0, none⟩ (.int .i64 7) = W9 := ⟨_, rfl⟩
      have hcW : Chg (fun k => k = w.heap.size + 1 + 1) W8 W9 := by rw [← hW9]; exact (Chg.refl (fun k => k = w.heap.size + 1 + 1) W8).setCell (p := ⟨w.heap.size + 1 + 1, 0, none⟩) (.inl rfl) _
      have t0 : W9.cell? ⟨w.heap.size, 0, none⟩ = some (.pointer (some ⟨b, 0, none⟩)) := hcW.cell r0 (by dsimp only; omega)
      have t1 : W9.cell? ⟨w.heap.size + 1 + 1, 0, none⟩ = some (.int .i64 7) := by rw [← hW9]; exact World.cell?_setCell_same _ _ _ r1
      have t2 : W9.cell? ⟨w.heap.size + 1 + 1 + 1, 0, none⟩ = some (.int .i64 vs.length) := hcW.cell r2 (by simp)
      rw [hW9]
      clear hW9 r0 r1 r2 rf1 r4
      have hC9 := hC8.kept hcW hS8
      refine leaves_cons (f := 88) (args := #[.pointer (some ⟨w.heap.size + 1 + 1, 0, none⟩), .pointer (some ⟨w.heap.size, 0, none⟩), .pointer (some ⟨w.heap.size + 1 + 1 + 1, 0, none⟩)]) (by simp) (by simp [go_sem]) ?_
      refine (give1_back _ _ _ b g1 (vs.length + 1) cap1 vs.length 7 .returning _ t1 rfl t0 t2 hC9.c4 (hC9.fz 4) (by omega) hle8).mono ?_
      rintro e u' w'' ⟨rfl, rfl, rfl⟩
      have hr : (W9.drew.setCell ⟨b, 4, none⟩ (.slice (some ⟨g1, 0, none⟩) vs.length cap1)).cell? ⟨w.heap.size + 1 + 1, 0, none⟩ = some (.int .i64 7) := (World.cell?_setCell_other _ _ _ _ (by simp)).trans t1
      obtain ⟨S', a1, a2, a3⟩ := hC9.setV (w1 := W9.drew) (vs' := vs) (Chg.drew (Chg.refl _ _)) (g := g1) (cap := cap1) (Chg.row (S := fun _ => False) (Chg.drew (Chg.refl _ _)) (row_cut (xs := vtRow vs) (ys := vtCells x) (k := vs.length) (by simpa [vtRow] using hC9.vrow) (by omega) (vtRow_length vs)) (fun _ _ hf => hf)) (.inl rfl) (Nat.lt_of_lt_of_le (hC9.lt g1 (hC9.inv g1 rfl)) (Nat.le_refl _))
      obtain ⟨W5, hW5⟩ : ∃ W5, W9.drew.setCell ⟨b, 4, none⟩ (.slice (some ⟨g1, 0, none⟩) vs.length cap1) = W5 := ⟨_, rfl⟩
      rw [hW5] at hr a1 a2 ⊢
      clear hW5
      have hc9 : Chg S w W9 := ((Chg.of_below S hB5).trans c8).then hcW (fun k e => .inr (by omega))
      refine ⟨.int .i64 7, ?_, by rw [(many_full x hfull).1], S', _, by rw [(many_full x hfull).2]; exact a1, hc9.then a2 (fun k hk => (s8 k hk).imp id (fun hle => by omega)), fun k hk => (a3 k hk).elim (fun h5 => (s8 k h5).imp id (fun hle => by omega)) (fun hle => .inr (Nat.le_trans hc9.size hle))⟩
      simp [results, Tryz.results50, go_sem, hr]
    · have hgt : ((vs.length + 1 : Nat) : Int) ≤ 300 := by omega
      go_wp2_with fail
      obtain ⟨W9, hW9⟩ : ∃ W9, W8.setCell ⟨w.heap.size + 1 + 1, 0, none⟩ (.int .i64 0) = W9 := ⟨_, rfl⟩
      have hcW : Chg (fun k => k = w.heap.size + 1 + 1) W8 W9 := by rw [← hW9]; exact (Chg.refl (fun k => k = w.heap.size + 1 + 1) W8).setCell (p := ⟨w.heap.size + 1 + 1, 0, none⟩) (.inl rfl) _
      have t1 : W9.cell? ⟨w.heap.size + 1 + 1, 0, none⟩ = some (.int .i64 0) := by rw [← hW9]; exact World.cell?_setCell_same _ _ _ r1
      rw [hW9]
      clear hW9 r0 r1 r2 rf1 r4
      have hC9 := hC8.kept hcW hS8
      refine leaves_cons (f := 88) (args := #[.pointer (some ⟨w.heap.size + 1 + 1, 0, none⟩), .pointer (some ⟨w.heap.size, 0, none⟩), .pointer (some ⟨w.heap.size + 1 + 1 + 1, 0, none⟩)]) (by simp) (by simp [go_sem]) ?_
      refine (give1_ok _ _ _ .returning _ t1).mono ?_
      rintro e u' w'' ⟨rfl, rfl, rfl⟩
      have hc9 : Chg S w w'' := ((Chg.of_below S hB5).trans c8).then hcW (fun k e => .inr (by omega))
      refine ⟨.int .i64 0, ?_, by rw [(many_room x hfull).1], S8, _, by rw [(many_room x hfull).2]; exact hC9, hc9, fun k hk => (s8 k hk).imp id (fun hle => by omega)⟩
      simp [results, Tryz.results50, go_sem, t1]
end Go.Proofs.YtgebcnnenhgkcaaGreat
