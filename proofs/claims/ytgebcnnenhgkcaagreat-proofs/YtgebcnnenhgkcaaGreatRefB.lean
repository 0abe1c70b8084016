/- The document's own Block. -/
import Derived.Test.YtgebcnnenhgkcaaGreatRefA
namespace Go.Proofs.YtgebcnnenhgkcaaGreat
open Go.RowKit

theorem refBlock_none (b : Nat) (S : Nat → Prop) (ws ps : List Int) (vs : List Vt) (wv pv vv : Value) (p : Int) (w : World) (h : RefAt w b S ws ps vs wv pv vv) (hT : Tree ps) (hno : hasB ps.length p = false) :
    Calls Tryz.prog 73 #[.pointer (some ⟨b, 0, none⟩), .int .i64 p] w fun e w' => e = .returned (.tuple #[.int .i64 0, .int .i64 4]) ∧ w' = w := by
  have h1 := h.c1
  obtain ⟨g0, cap0, rfl, hle0, hm0, hcs0, _⟩ := row_open h.prow hT.1
  clear hm0 hcs0
  have hlen : ps.length ≤ 40 := hT.2.1
  have hn : p < 0 ∨ (ps.length : Int) ≤ p := by simp [hasB] at hno; omega
  by_cases hp : p < 0
  all_goals
    go_enter Tryz.func73, Tryz.ntmps73
    go_wp2
    go_ret2
    exact ⟨rfl, rfl⟩

theorem refBlock_many (b : Nat) (S : Nat → Prop) (ws ps : List Int) (vs : List Vt) (wv pv vv : Value) (p : Int) (w : World) (h : RefAt w b S ws ps vs wv pv vv) (hT : Tree ps) (hyes : hasB ps.length p = true) (hfull : 40 ≤ ps.length) :
    Calls Tryz.prog 73 #[.pointer (some ⟨b, 0, none⟩), .int .i64 p] w fun e w' => e = .returned (.tuple #[.int .i64 0, .int .i64 7]) ∧ w' = w := by
  have h1 := h.c1
  obtain ⟨g0, cap0, rfl, hle0, hm0, hcs0, _⟩ := row_open h.prow hT.1
  clear hm0 hcs0
  have hlen : ps.length ≤ 40 := hT.2.1
  have hn : 0 ≤ p ∧ p < (ps.length : Int) := by simpa [hasB] using hyes
  obtain ⟨hn0, hn1⟩ := hn
  have hn0' : ¬ p < 0 := by omega
  go_enter Tryz.func73, Tryz.ntmps73
  go_wp2
  go_ret2
  exact ⟨rfl, rfl⟩

set_option maxRecDepth 100000 in
set_option maxHeartbeats 1000000 in
theorem refBlock_ok (b : Nat) (S : Nat → Prop) (ws ps : List Int) (vs : List Vt) (wv pv vv : Value) (p : Int) (w : World) (h : RefAt w b S ws ps vs wv pv vv) (hT : Tree ps) (hyes : hasB ps.length p = true) (hroom : ps.length < 40) :
    Calls Tryz.prog 73 #[.pointer (some ⟨b, 0, none⟩), .int .i64 p] w fun e w' => e = .returned (.tuple #[.int .i64 ps.length, .int .i64 0]) ∧
      ∃ (S' : Nat → Prop) (pv' : Value), RefAt w' b S' ws (ps ++ [p]) vs wv pv' vv ∧ Chg S w w' ∧ (∀ k, S' k → S k ∨ w.heap.size ≤ k) := by
  obtain ⟨i0, hi, hz0, hz1, hz2⟩ := info_parts info_int
  have hbl := h.lt b h.inb
  have h1 := h.c1
  have hf1 := h.fz 1
  have hpb : pv.ownBlock ≠ some b := not_row h.prow h.heap (by decide)
  obtain ⟨g0, cap0, rfl, hle0, hm0, hcs0, _⟩ := row_open h.prow hT.1
  have h63 : Hid (ps.length + 1 ≤ maxLen) := by show _ ≤ _; unfold maxLen; omega
  clear hm0 hcs0
  have hn : 0 ≤ p ∧ p < (ps.length : Int) := by simpa [hasB] using hyes
  obtain ⟨hn0, hn1⟩ := hn
  have hn0' : ¬ p < 0 := by omega
  go_enter Tryz.func73, Tryz.ntmps73
  go_wp2_with (at_builtin; refine wpList_append_lies _ (by rfl) _ _ _ (by rfl) 0 3 i0 (I64 0) 1 8 Tryz.underlying22 hi hz0 hz1 hz2 rfl (by omega) (.slice (some ⟨g0, 0, none⟩) ps.length cap0) ps.length (ps.map I64) (by rfl) (h.prow.alloc _) ⟨w.heap.size, 0, none⟩ 1 1 [I64 p] (by rfl) (by rfl) (cell_one_new _ _ _) (by simp [Value.oneCell']) (by omega) h63.out (by omega) (Nat.zero_le _) (w.heap.size + 1) (by simp) ?_; intro g cap w1 hown hgrow hat hlt; have hb1 : w1.heap[b]? = w.heap[b]? := (hgrow.block b (by simp; omega) (fun e => hpb e.symm)).trans (Below.heap_alloc w _ b hbl); have hx3 : w1.cell? ⟨b, 1, none⟩ = some (.slice (some ⟨g0, 0, none⟩) ps.length cap0) := (World.cell?_of_block hb1).trans h1; have hxf : w1.frozen? ⟨b, 1, none⟩ = false := (World.frozen?_of_block hb1).trans hf1; clear hb1)
  go_ret2
  refine ⟨by simp, ?_⟩
  have hc : Chg (fun k => Value.ownBlock (.slice (some ⟨g0, 0, none⟩) ps.length cap0) = some k) w w1 := ((Chg.refl _ w).alloc _).grown hgrow (fun k e => .inl e)
  obtain ⟨S', a1, a2, a3⟩ := h.setP (ps' := ps ++ [p]) hc (g := g) (cap := cap) (by simpa using hown) (hat.elim .inl (fun e => .inr (by omega))) hlt
  simp only [List.length_append, List.length_cons, List.length_nil, Nat.zero_add] at a1 a2
  exact ⟨S', ⟨_, a1⟩, a2, a3⟩

/-- The document's Block: the same answer, the same tree. -/
theorem refBlock_at (b : Nat) (S : Nat → Prop) (ws ps : List Int) (vs : List Vt) (wv pv vv : Value) (p : Int) (w : World) (h : RefAt w b S ws ps vs wv pv vv) (hT : Tree ps) :
    Calls Tryz.prog 73 #[.pointer (some ⟨b, 0, none⟩), .int .i64 p] w fun e w' => e = .returned (.tuple #[.int .i64 (blkN ps p), .int .i64 (blkE ps p)]) ∧
      ∃ (S' : Nat → Prop) (pv' : Value), RefAt w' b S' ws (blkP ps p) vs wv pv' vv ∧ Chg S w w' ∧ (∀ k, S' k → S k ∨ w.heap.size ≤ k) := by
  unfold blkN blkE blkP
  cases hh : hasB ps.length p
  · refine (refBlock_none b S ws ps vs wv pv vv p w h hT hh).mono ?_
    rintro e w' ⟨rfl, rfl⟩
    exact ⟨by simp, S, pv, by simpa using h, Chg.refl _ _, fun k hk => .inl hk⟩
  · by_cases hf : 40 ≤ ps.length
    · refine (refBlock_many b S ws ps vs wv pv vv p w h hT hh hf).mono ?_
      rintro e w' ⟨rfl, rfl⟩
      exact ⟨by simp [hf], S, pv, by simpa [hf] using h, Chg.refl _ _, fun k hk => .inl hk⟩
    · simpa [hf] using refBlock_ok b S ws ps vs wv pv vv p w h hT hh (by omega)
end Go.Proofs.YtgebcnnenhgkcaaGreat
