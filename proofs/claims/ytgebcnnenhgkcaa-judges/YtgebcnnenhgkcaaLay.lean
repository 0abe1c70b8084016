/- Block's inner parts: a block is laid, and taken back where there are too many. -/
import Derived.Test.YtgebcnnenhgkcaaTreeA
import Derived.Test.YtgebcnnenhgkcaaMem2
import Derived.Deep.RegionHeld3
import Derived.WalkSpells
import Derived.Deep.QuietTactic
import Derived.BigQuiet
namespace Go.Proofs.Ytgebcnnenhgkcaa
open Go.RowKit

theorem info_int : (Try.prog.info? 3).map (fun i => (i.zero, i.size, i.bytes)) = some (some (I64 0), 1, 8) := by kernel_rfl
theorem info_vote : (Try.prog.info? 70).map (fun i => (i.zero, i.size, i.bytes)) = some (some (.agg #[I64 0, I64 0, I64 0]), 3, 24) := by kernel_rfl

set_option maxRecDepth 100000 in
set_option maxHeartbeats 1000000 in
theorem treeLay_at (b : Nat) (S : Nat → Prop) (m : Int) (ws ps : List Int) (vs : List Vt) (wv pv vv : Value) (p : Int) (w : World) (h : CourtAt w b S m ws ps vs wv pv vv) (h0 : 0 < ps.length) (hl : ps.length ≤ 41) :
    Calls Try.prog 62 #[.pointer (some ⟨b, 3, none⟩), .int .i64 p] w fun e w' => e = .returned (.int .i64 ps.length) ∧
      ∃ (S' : Nat → Prop) (g cap : Nat), CourtAt w' b S' m ws (ps ++ [p]) vs wv (.slice (some ⟨g, 0, none⟩) (ps.length + 1) cap) vv ∧ Chg S w w' ∧ (∀ k, S' k → S k ∨ w.heap.size ≤ k) := by
  obtain ⟨i0, hi, hz0, hz1, hz2⟩ := info_parts info_int
  have hbl := h.lt b h.inb
  have h3 := h.c3
  have hf3 := h.fz 3
  have hpb : pv.ownBlock ≠ some b := not_row h.prow h.heap (by decide)
  obtain ⟨g0, cap0, rfl, hle0, hm0, hcs0, _⟩ := row_open h.prow h0
  have h63 : Hid (ps.length + 1 ≤ maxLen) := by show _ ≤ _; unfold maxLen; omega
  clear hm0 hcs0
  go_enter Try.func62, Try.ntmps62
  go_wp2_with (at_builtin; refine wpList_append_lies _ (by rfl) _ _ _ (by rfl) 0 3 i0 (I64 0) 1 8 Try.underlying22 hi hz0 hz1 hz2 rfl (by omega) (.slice (some ⟨g0, 0, none⟩) ps.length cap0) ps.length (ps.map I64) (by rfl) (h.prow.alloc _) ⟨w.heap.size, 0, none⟩ 1 1 [I64 p] (by rfl) (by rfl) (cell_one_new _ _ _) (by simp [Value.oneCell']) (by omega) h63.out (by omega) (Nat.zero_le _) (w.heap.size + 1) (by simp) ?_; intro g cap w1 hown hgrow hat hlt; have hb1 : w1.heap[b]? = w.heap[b]? := (hgrow.block b (by simp; omega) (fun e => hpb e.symm)).trans (Below.heap_alloc w _ b hbl); have hx3 : w1.cell? ⟨b, 3, none⟩ = some (.slice (some ⟨g0, 0, none⟩) ps.length cap0) := (World.cell?_of_block hb1).trans h3; have hxf : w1.frozen? ⟨b, 3, none⟩ = false := (World.frozen?_of_block hb1).trans hf3; clear hb1)
  go_ret
  refine ⟨by simp, ?_⟩
  have hc : Chg (fun k => Value.ownBlock (.slice (some ⟨g0, 0, none⟩) ps.length cap0) = some k) w w1 := ((Chg.refl _ w).alloc _).grown hgrow (fun k e => .inl e)
  obtain ⟨S', h1, h2, h3'⟩ := h.setP (ps' := ps ++ [p]) hc (g := g) (cap := cap) (by simpa using hown) (hat.elim .inl (fun e => .inr (by omega))) hlt
  simp only [List.length_append, List.length_cons, List.length_nil, Nat.zero_add] at h1 h2
  exact ⟨S', g, cap, h1, h2, h3'⟩

theorem treeKeep_at (b o g n cap k : Nat) (w : World) (hc : w.cell? ⟨b, o, none⟩ = some (.slice (some ⟨g, 0, none⟩) n cap)) (hf : w.frozen? ⟨b, o, none⟩ = false) (hk : k ≤ n) (hn : n ≤ cap) :
    Calls Try.prog 60 #[.pointer (some ⟨b, o, none⟩), .int .i64 k] w fun e w' => e = .returned (.tuple #[]) ∧ w' = w.setCell ⟨b, o, none⟩ (.slice (some ⟨g, 0, none⟩) k cap) := by
  have h1 : (k : Int) ≤ (cap : Int) := by omega
  have h2 : (0 : Int) ≤ (k : Int) := by omega
  go_enter Try.func60, Try.ntmps60
  go_wp2
  go_end0
  exact ⟨rfl, rfl⟩

theorem lay1_ok (F C B : Nat) (u : FrameMode) (w : World) (hF : w.cell? ⟨F, 0, none⟩ = some (.int .i64 0)) :
    CallsD Try.prog 59 #[.pointer (some ⟨F, 0, none⟩), .pointer (some ⟨C, 0, none⟩), .pointer (some ⟨B, 0, none⟩)] u w fun e u' w' => u' = u ∧ (e = .returned (.tuple #[]) ∧ w' = w) := by
  go_enter_d Try.func59, Try.ntmps59
  go_wp2
  go_end0
  exact ⟨rfl, rfl⟩

set_option maxHeartbeats 1000000 in
theorem lay1_back (F C B b g n cap k : Nat) (f : Int) (u : FrameMode) (w : World) (hF : w.cell? ⟨F, 0, none⟩ = some (.int .i64 f)) (hf0 : (f != 0) = true) (hC : w.cell? ⟨C, 0, none⟩ = some (.pointer (some ⟨b, 0, none⟩))) (hB : w.cell? ⟨B, 0, none⟩ = some (.int .i64 k))
    (hc : w.cell? ⟨b, 3, none⟩ = some (.slice (some ⟨g, 0, none⟩) n cap)) (hf : w.frozen? ⟨b, 3, none⟩ = false) (hk : k ≤ n) (hn : n ≤ cap) :
    CallsD Try.prog 59 #[.pointer (some ⟨F, 0, none⟩), .pointer (some ⟨C, 0, none⟩), .pointer (some ⟨B, 0, none⟩)] u w fun e u' w' => u' = u ∧ (e = .returned (.tuple #[]) ∧ w' = w.drew.setCell ⟨b, 3, none⟩ (.slice (some ⟨g, 0, none⟩) k cap)) := by
  go_enter_d Try.func59, Try.ntmps59
  go_wp2
  go_region_held3 (fun w' => w'.cell? ⟨C, 0, none⟩ = some (.pointer (some ⟨b, 0, none⟩)) ∧ w'.cell? ⟨B, 0, none⟩ = some (.int .i64 k))
    (first | (refine ⟨by assumption, by assumption⟩) | (refine ⟨?_, ?_⟩ <;> simpa) | go_keep)
    ((go_at_call 60; refine (treeKeep_at b 3 g n cap k w.drew hc hf hk hn).mono ?_; rintro e w3 ⟨rfl, rfl⟩
      have e1 : (w.drew.setCell ⟨b, 3, none⟩ (.slice (some ⟨g, 0, none⟩) k cap)).cell? ⟨C, 0, none⟩ = some (.pointer (some ⟨b, 0, none⟩)) := (World.cell?_setCell_other _ _ _ _ (by simp)).trans hC
      have e2 : (w.drew.setCell ⟨b, 3, none⟩ (.slice (some ⟨g, 0, none⟩) k cap)).cell? ⟨B, 0, none⟩ = some (.int .i64 k) := (World.cell?_setCell_other _ _ _ _ (by simp)).trans hB))
  go_wp2
  go_end0
  exact ⟨rfl, rfl⟩

set_option maxRecDepth 100000 in
set_option maxHeartbeats 1000000 in
theorem lay_none (b : Nat) (S : Nat → Prop) (ws ps : List Int) (vs : List Vt) (wv pv vv : Value) (p : Int) (w : World) (h : CourtAt w b S 1 ws ps vs wv pv vv) (h0 : 0 < ps.length) (hno : hasB ps.length p = false) :
    Calls Try.prog 35 #[.pointer (some ⟨b, 0, none⟩), .int .i64 p] w fun e w' => e = .returned (.tuple #[.int .i64 0, .int .i64 4]) ∧
      ∃ (S' : Nat → Prop) (pv' : Value), CourtAt w' b S' 1 ws ps vs wv pv' vv ∧ Chg S w w' ∧ (∀ k, S' k → S k ∨ w.heap.size ≤ k) := by
  have hbl := h.lt b h.inb
  have h3 := h.c3
  have hf3 := h.fz 3
  obtain ⟨g0, cap0, rfl, hle0, hm0, hcs0, _⟩ := row_open h.prow h0
  clear hm0 hcs0
  have hmf : ∀ (fn : Fn) (first cap : Array Value) (w : World), (Instr.makeFunc fn first cap).run Try.prog w = .ok (.func fn first cap) w := fun _ _ _ _ => rfl
  go_enter_defers Try.func35, Try.ntmps35
  go_wp2_with (go_at_call 58; refine (count_at b 3 (some ⟨g0, 0, none⟩) ps.length cap0 _ ?_).mono ?_; (simpa [go_sem, hbl] using h3); rintro e w' ⟨rfl, rfl⟩)
  obtain ⟨W3, hW3⟩ : ∃ W3, ((w.alloc (.cells #[.pointer (some ⟨b, 0, none⟩)] 32)).alloc (.cells #[.int .i64 0] 51)).alloc (.cells #[.int .i64 ps.length] 3) = W3 := ⟨_, rfl⟩
  have hs3 : W3.heap.size = w.heap.size + 1 + 1 + 1 := by rw [← hW3]; simp
  have k0 : W3.cell? ⟨w.heap.size, 0, none⟩ = some (.pointer (some ⟨b, 0, none⟩)) := by rw [← hW3]; simp [go_sem]
  have k1 : W3.cell? ⟨w.heap.size + 1, 0, none⟩ = some (.int .i64 0) := by rw [← hW3]; simp [go_sem]
  have f1 : W3.frozen? ⟨w.heap.size + 1, 0, none⟩ = false := by rw [← hW3]; simp [go_sem]
  have k2 : W3.cell? ⟨w.heap.size + 1 + 1, 0, none⟩ = some (.int .i64 ps.length) := by rw [← hW3]; simp [go_sem]
  have hB3 : Below w.heap.size w W3 := by rw [← hW3]; exact (((Below.refl _ w).alloc (Nat.le_refl _) _).alloc (by simp) _).alloc (by simp; omega) _
  rw [hW3]
  clear hW3
  have hC3 := h.kept (Chg.of_below (fun _ => False) hB3) (fun _ _ hf => hf)
  have h33 := hC3.c3
  have hf33 := hC3.fz 3
  refine (has_at b 3 (some ⟨g0, 0, none⟩) ps.length cap0 _ _ h33).mono ?_
  rintro e w' ⟨rfl, rfl⟩
  rw [hno]
  go_wp2_with fail
  obtain ⟨W4, hW4⟩ : ∃ W4, w'.setCell ⟨w.heap.size + 1, 0, none⟩ (.int .i64 4) = W4 := ⟨_, rfl⟩
  have q0 : W4.cell? ⟨w.heap.size, 0, none⟩ = some (.pointer (some ⟨b, 0, none⟩)) := by rw [← hW4, World.cell?_setCell_other _ _ _ _ (by simp)]; exact k0
  have q1 : W4.cell? ⟨w.heap.size + 1, 0, none⟩ = some (.int .i64 4) := by rw [← hW4]; exact World.cell?_setCell_same _ _ _ k1
  have q2 : W4.cell? ⟨w.heap.size + 1 + 1, 0, none⟩ = some (.int .i64 ps.length) := by rw [← hW4, World.cell?_setCell_other _ _ _ _ (by simp)]; exact k2
  have hB4 : Below w.heap.size w W4 := by rw [← hW4]; exact hB3.setCell (p := ⟨w.heap.size + 1, 0, none⟩) (by simp) _
  rw [hW4]
  clear hW4 k0 k1 k2 h33 hf33 hC3
  have hC4 := h.kept (Chg.of_below (fun _ => False) hB4) (fun _ _ hf => hf)
  refine leaves_cons (f := 59) (args := #[.pointer (some ⟨w.heap.size + 1, 0, none⟩), .pointer (some ⟨w.heap.size, 0, none⟩), .pointer (some ⟨w.heap.size + 1 + 1, 0, none⟩)]) (by simp) (by simp [go_sem]) ?_
  refine (lay1_back _ _ _ b g0 ps.length cap0 ps.length 4 .returning _ q1 rfl q0 q2 hC4.c3 (hC4.fz 3) (Nat.le_refl _) hle0).mono ?_
  rintro e u' w'' ⟨rfl, rfl, rfl⟩
  have hr : (W4.drew.setCell ⟨b, 3, none⟩ (.slice (some ⟨g0, 0, none⟩) ps.length cap0)).cell? ⟨w.heap.size + 1, 0, none⟩ = some (.int .i64 4) := (World.cell?_setCell_other _ _ _ _ (by simp)).trans q1
  obtain ⟨S', a1, a2, a3⟩ := hC4.setP (w1 := W4.drew) (ps' := ps) (Chg.drew (Chg.refl _ _)) (g := g0) (cap := cap0) (Chg.row (S := fun _ => False) (Chg.drew (Chg.refl _ _)) hC4.prow (fun _ _ hf => hf)) (.inl rfl) (Nat.lt_of_lt_of_le (hC4.lt g0 (hC4.inp g0 rfl)) (Nat.le_refl _))
  obtain ⟨W5, hW5⟩ : ∃ W5, W4.drew.setCell ⟨b, 3, none⟩ (.slice (some ⟨g0, 0, none⟩) ps.length cap0) = W5 := ⟨_, rfl⟩
  rw [hW5] at hr a1 a2 ⊢
  clear hW5
  refine ⟨.tuple #[.int .i64 0, .int .i64 4], ?_, rfl, S', _, a1, (Chg.of_below S hB4).trans a2, fun k hk => (a3 k hk).imp id (fun hle => Nat.le_trans hB4.size hle)⟩
  simp [results, Try.results35, go_sem, hr]

set_option maxRecDepth 100000 in
set_option maxHeartbeats 1000000 in
theorem lay_many (b : Nat) (S : Nat → Prop) (ws ps : List Int) (vs : List Vt) (wv pv vv : Value) (p : Int) (w : World) (h : CourtAt w b S 1 ws ps vs wv pv vv) (h0 : 0 < ps.length) (hyes : hasB ps.length p = true) (hfull : 40 ≤ ps.length) (hfull2 : ps.length ≤ 40) :
    Calls Try.prog 35 #[.pointer (some ⟨b, 0, none⟩), .int .i64 p] w fun e w' => e = .returned (.tuple #[.int .i64 0, .int .i64 7]) ∧
      ∃ (S' : Nat → Prop) (pv' : Value), CourtAt w' b S' 1 ws ps vs wv pv' vv ∧ Chg S w w' ∧ (∀ k, S' k → S k ∨ w.heap.size ≤ k) := by
  have hbl := h.lt b h.inb
  have h3 := h.c3
  have hf3 := h.fz 3
  obtain ⟨g0, cap0, rfl, hle0, hm0, hcs0, _⟩ := row_open h.prow h0
  clear hm0 hcs0
  have hmf : ∀ (fn : Fn) (first cap : Array Value) (w : World), (Instr.makeFunc fn first cap).run Try.prog w = .ok (.func fn first cap) w := fun _ _ _ _ => rfl
  go_enter_defers Try.func35, Try.ntmps35
  go_wp2_with (go_at_call 58; refine (count_at b 3 (some ⟨g0, 0, none⟩) ps.length cap0 _ ?_).mono ?_; (simpa [go_sem, hbl] using h3); rintro e w' ⟨rfl, rfl⟩)
  obtain ⟨W3, hW3⟩ : ∃ W3, ((w.alloc (.cells #[.pointer (some ⟨b, 0, none⟩)] 32)).alloc (.cells #[.int .i64 0] 51)).alloc (.cells #[.int .i64 ps.length] 3) = W3 := ⟨_, rfl⟩
  have hs3 : W3.heap.size = w.heap.size + 1 + 1 + 1 := by rw [← hW3]; simp
  have k0 : W3.cell? ⟨w.heap.size, 0, none⟩ = some (.pointer (some ⟨b, 0, none⟩)) := by rw [← hW3]; simp [go_sem]
  have k1 : W3.cell? ⟨w.heap.size + 1, 0, none⟩ = some (.int .i64 0) := by rw [← hW3]; simp [go_sem]
  have f1 : W3.frozen? ⟨w.heap.size + 1, 0, none⟩ = false := by rw [← hW3]; simp [go_sem]
  have k2 : W3.cell? ⟨w.heap.size + 1 + 1, 0, none⟩ = some (.int .i64 ps.length) := by rw [← hW3]; simp [go_sem]
  have hB3 : Below w.heap.size w W3 := by rw [← hW3]; exact (((Below.refl _ w).alloc (Nat.le_refl _) _).alloc (by simp) _).alloc (by simp; omega) _
  rw [hW3]
  clear hW3
  have hC3 := h.kept (Chg.of_below (fun _ => False) hB3) (fun _ _ hf => hf)
  have h33 := hC3.c3
  have hf33 := hC3.fz 3
  refine (has_at b 3 (some ⟨g0, 0, none⟩) ps.length cap0 _ _ h33).mono ?_
  rintro e w' ⟨rfl, rfl⟩
  rw [hyes]
  go_wp2_with fail
  refine (treeLay_at b S 1 ws ps vs wv _ vv p _ hC3 h0 (by omega)).mono ?_
  rintro e w5 ⟨rfl, S5, g, cap, hC5, hg5, hsub5⟩
  have hnS : ∀ k, w.heap.size ≤ k → ¬ S k := fun k hk hS => by have := h.lt k hS; omega
  have r0 : w5.cell? ⟨w.heap.size, 0, none⟩ = some (.pointer (some ⟨b, 0, none⟩)) := hg5.cell k0 (hnS _ (by simp))
  have r1 : w5.cell? ⟨w.heap.size + 1, 0, none⟩ = some (.int .i64 0) := hg5.cell k1 (hnS _ (by simp))
  have r2 : w5.cell? ⟨w.heap.size + 1 + 1, 0, none⟩ = some (.int .i64 ps.length) := hg5.cell k2 (hnS _ (by simp; omega))
  have f5 : w5.frozen? ⟨w.heap.size + 1, 0, none⟩ = false := (World.frozen?_of_block (hg5.block (w.heap.size + 1) (by omega) (hnS _ (by simp)))).trans f1
  have c5 := hC5.c3
  clear k0 k1 k2 f1 h33 hf33 hC3
  have hcap : ps.length + 1 ≤ cap := by
    rcases hC5.prow.2 with ⟨h', _⟩ | ⟨_, _, _, h', _, _, hle, _⟩
    · simp at h'
    · simp only [Value.slice.injEq, Option.some.injEq, Addr.mk.injEq] at h'
      obtain ⟨_, _, rfl⟩ := h'
      simpa using hle
  have c5' : w5.cell? ⟨b, 3, none⟩ = some (.slice (some ⟨g, 0, none⟩) (ps.length + 1) cap) := c5
  clear c5
  go_wp2_with fail
  refine (count_at b 3 (some ⟨g, 0, none⟩) (ps.length + 1) cap _ c5').mono ?_
  rintro e w6 ⟨rfl, rfl⟩
  have hgt : (40 : Int) < ((ps.length + 1 : Nat) : Int) := by omega
  go_wp2_with fail
  obtain ⟨W4, hW4⟩ : ∃ W4, w6.setCell ⟨w.heap.size + 1, 0, none⟩ (.int .i64 7) = W4 := ⟨_, rfl⟩
  have hcW : Chg (fun k => k = w.heap.size + 1) w6 W4 := by rw [← hW4]; exact (Chg.refl (fun k => k = w.heap.size + 1) w6).setCell (p := ⟨w.heap.size + 1, 0, none⟩) (.inl rfl) _
  have q0 : W4.cell? ⟨w.heap.size, 0, none⟩ = some (.pointer (some ⟨b, 0, none⟩)) := hcW.cell r0 (by simp)
  have q1 : W4.cell? ⟨w.heap.size + 1, 0, none⟩ = some (.int .i64 7) := by rw [← hW4]; exact World.cell?_setCell_same _ _ _ r1
  have q2 : W4.cell? ⟨w.heap.size + 1 + 1, 0, none⟩ = some (.int .i64 ps.length) := hcW.cell r2 (by simp)
  rw [hW4]
  clear hW4 r0 r1 r2
  have hz5 := hg5.size
  have hS5 : ∀ k, S5 k → ¬ k = w.heap.size + 1 := fun k hk e => by
    rcases hsub5 k hk with hS | hle
    · exact hnS k (by omega) hS
    · omega
  have hC4 := hC5.kept hcW hS5
  refine leaves_cons (f := 59) (args := #[.pointer (some ⟨w.heap.size + 1, 0, none⟩), .pointer (some ⟨w.heap.size, 0, none⟩), .pointer (some ⟨w.heap.size + 1 + 1, 0, none⟩)]) (by simp) (by simp [go_sem]) ?_
  refine (lay1_back _ _ _ b g (ps.length + 1) cap ps.length 7 .returning _ q1 rfl q0 q2 hC4.c3 (hC4.fz 3) (by omega) hcap).mono ?_
  rintro e u' w'' ⟨rfl, rfl, rfl⟩
  have hr : (W4.drew.setCell ⟨b, 3, none⟩ (.slice (some ⟨g, 0, none⟩) ps.length cap)).cell? ⟨w.heap.size + 1, 0, none⟩ = some (.int .i64 7) := (World.cell?_setCell_other _ _ _ _ (by simp)).trans q1
  obtain ⟨S', a1, a2, a3⟩ := hC4.setP (w1 := W4.drew) (ps' := ps) (Chg.drew (Chg.refl _ _)) (g := g) (cap := cap) (Chg.row (S := fun _ => False) (Chg.drew (Chg.refl _ _)) (row_cut (xs := ps.map I64) (ys := [I64 p]) (k := ps.length) (by simpa using hC4.prow) (by omega) (by simp)) (fun _ _ hf => hf)) (.inl rfl) (Nat.lt_of_lt_of_le (hC4.lt g (hC4.inp g rfl)) (Nat.le_refl _))
  obtain ⟨W5, hW5⟩ : ∃ W5, W4.drew.setCell ⟨b, 3, none⟩ (.slice (some ⟨g, 0, none⟩) ps.length cap) = W5 := ⟨_, rfl⟩
  rw [hW5] at hr a1 a2 ⊢
  clear hW5
  have hc4 : Chg S w W4 := ((Chg.of_below S hB3).trans hg5).then hcW (fun k e => .inr (by omega))
  refine ⟨.tuple #[.int .i64 0, .int .i64 7], ?_, rfl, S', _, a1, hc4.then a2 (fun k hk => (hsub5 k hk).imp id (fun hle => by omega)), fun k hk => (a3 k hk).elim (fun h5 => (hsub5 k h5).imp id (fun hle => by omega)) (fun hle => .inr (Nat.le_trans hc4.size hle))⟩
  simp [results, Try.results35, go_sem, hr]

set_option maxRecDepth 100000 in
set_option maxHeartbeats 1000000 in
theorem lay_ok (b : Nat) (S : Nat → Prop) (ws ps : List Int) (vs : List Vt) (wv pv vv : Value) (p : Int) (w : World) (h : CourtAt w b S 1 ws ps vs wv pv vv) (h0 : 0 < ps.length) (hyes : hasB ps.length p = true) (hroom : ps.length < 40) :
    Calls Try.prog 35 #[.pointer (some ⟨b, 0, none⟩), .int .i64 p] w fun e w' => e = .returned (.tuple #[.int .i64 ps.length, .int .i64 0]) ∧
      ∃ (S' : Nat → Prop) (pv' : Value), CourtAt w' b S' 1 ws (ps ++ [p]) vs wv pv' vv ∧ Chg S w w' ∧ (∀ k, S' k → S k ∨ w.heap.size ≤ k) := by
  have hbl := h.lt b h.inb
  have h3 := h.c3
  have hf3 := h.fz 3
  obtain ⟨g0, cap0, rfl, hle0, hm0, hcs0, _⟩ := row_open h.prow h0
  clear hm0 hcs0
  have hmf : ∀ (fn : Fn) (first cap : Array Value) (w : World), (Instr.makeFunc fn first cap).run Try.prog w = .ok (.func fn first cap) w := fun _ _ _ _ => rfl
  go_enter_defers Try.func35, Try.ntmps35
  go_wp2_with (go_at_call 58; refine (count_at b 3 (some ⟨g0, 0, none⟩) ps.length cap0 _ ?_).mono ?_; (simpa [go_sem, hbl] using h3); rintro e w' ⟨rfl, rfl⟩)
  obtain ⟨W3, hW3⟩ : ∃ W3, ((w.alloc (.cells #[.pointer (some ⟨b, 0, none⟩)] 32)).alloc (.cells #[.int .i64 0] 51)).alloc (.cells #[.int .i64 ps.length] 3) = W3 := ⟨_, rfl⟩
  have hs3 : W3.heap.size = w.heap.size + 1 + 1 + 1 := by rw [← hW3]; simp
  have k0 : W3.cell? ⟨w.heap.size, 0, none⟩ = some (.pointer (some ⟨b, 0, none⟩)) := by rw [← hW3]; simp [go_sem]
  have k1 : W3.cell? ⟨w.heap.size + 1, 0, none⟩ = some (.int .i64 0) := by rw [← hW3]; simp [go_sem]
  have f1 : W3.frozen? ⟨w.heap.size + 1, 0, none⟩ = false := by rw [← hW3]; simp [go_sem]
  have k2 : W3.cell? ⟨w.heap.size + 1 + 1, 0, none⟩ = some (.int .i64 ps.length) := by rw [← hW3]; simp [go_sem]
  have hB3 : Below w.heap.size w W3 := by rw [← hW3]; exact (((Below.refl _ w).alloc (Nat.le_refl _) _).alloc (by simp) _).alloc (by simp; omega) _
  rw [hW3]
  clear hW3
  have hC3 := h.kept (Chg.of_below (fun _ => False) hB3) (fun _ _ hf => hf)
  have h33 := hC3.c3
  have hf33 := hC3.fz 3
  refine (has_at b 3 (some ⟨g0, 0, none⟩) ps.length cap0 _ _ h33).mono ?_
  rintro e w' ⟨rfl, rfl⟩
  rw [hyes]
  go_wp2_with fail
  refine (treeLay_at b S 1 ws ps vs wv _ vv p _ hC3 h0 (by omega)).mono ?_
  rintro e w5 ⟨rfl, S5, g, cap, hC5, hg5, hsub5⟩
  have hnS : ∀ k, w.heap.size ≤ k → ¬ S k := fun k hk hS => by have := h.lt k hS; omega
  have r0 : w5.cell? ⟨w.heap.size, 0, none⟩ = some (.pointer (some ⟨b, 0, none⟩)) := hg5.cell k0 (hnS _ (by simp))
  have r1 : w5.cell? ⟨w.heap.size + 1, 0, none⟩ = some (.int .i64 0) := hg5.cell k1 (hnS _ (by simp))
  have r2 : w5.cell? ⟨w.heap.size + 1 + 1, 0, none⟩ = some (.int .i64 ps.length) := hg5.cell k2 (hnS _ (by simp; omega))
  have f5 : w5.frozen? ⟨w.heap.size + 1, 0, none⟩ = false := (World.frozen?_of_block (hg5.block (w.heap.size + 1) (by omega) (hnS _ (by simp)))).trans f1
  have c5 := hC5.c3
  clear k0 k1 k2 f1 h33 hf33 hC3
  have hcap : ps.length + 1 ≤ cap := by
    rcases hC5.prow.2 with ⟨h', _⟩ | ⟨_, _, _, h', _, _, hle, _⟩
    · simp at h'
    · simp only [Value.slice.injEq, Option.some.injEq, Addr.mk.injEq] at h'
      obtain ⟨_, _, rfl⟩ := h'
      simpa using hle
  have c5' : w5.cell? ⟨b, 3, none⟩ = some (.slice (some ⟨g, 0, none⟩) (ps.length + 1) cap) := c5
  clear c5
  go_wp2_with fail
  refine (count_at b 3 (some ⟨g, 0, none⟩) (ps.length + 1) cap _ c5').mono ?_
  rintro e w6 ⟨rfl, rfl⟩
  have hgt : ((ps.length + 1 : Nat) : Int) ≤ 40 := by omega
  go_wp2_with fail
  obtain ⟨W4, hW4⟩ : ∃ W4, w6.setCell ⟨w.heap.size + 1, 0, none⟩ (.int .i64 0) = W4 := ⟨_, rfl⟩
  have hcW : Chg (fun k => k = w.heap.size + 1) w6 W4 := by rw [← hW4]; exact (Chg.refl (fun k => k = w.heap.size + 1) w6).setCell (p := ⟨w.heap.size + 1, 0, none⟩) (.inl rfl) _
  have q1 : W4.cell? ⟨w.heap.size + 1, 0, none⟩ = some (.int .i64 0) := by rw [← hW4]; exact World.cell?_setCell_same _ _ _ r1
  rw [hW4]
  clear hW4 r0 r1 r2
  have hz5 := hg5.size
  have hS5 : ∀ k, S5 k → ¬ k = w.heap.size + 1 := fun k hk e => by
    rcases hsub5 k hk with hS | hle
    · exact hnS k (by omega) hS
    · omega
  have hC4 := hC5.kept hcW hS5
  refine leaves_cons (f := 59) (args := #[.pointer (some ⟨w.heap.size + 1, 0, none⟩), .pointer (some ⟨w.heap.size, 0, none⟩), .pointer (some ⟨w.heap.size + 1 + 1, 0, none⟩)]) (by simp) (by simp [go_sem]) ?_
  refine (lay1_ok _ _ _ .returning _ q1).mono ?_
  rintro e u' w'' ⟨rfl, rfl, rfl⟩
  have hc4 : Chg S w w'' := ((Chg.of_below S hB3).trans hg5).then hcW (fun k e => .inr (by omega))
  refine ⟨.tuple #[.int .i64 ps.length, .int .i64 0], ?_, rfl, S5, _, hC4, hc4, fun k hk => (hsub5 k hk).imp id (fun hle => by omega)⟩
  simp [results, Try.results35, go_sem, q1]

end Go.Proofs.Ytgebcnnenhgkcaa
