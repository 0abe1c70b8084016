/- The program's Court by itself, while blocks of others are kept. -/
import Derived.Test.YtgebcnnenhgkcaaGreatSteps
import Derived.Test.YtgebcnnenhgkcaaGreatAllA
import Derived.Test.YtgebcnnenhgkcaaGreatFinalA
namespace Go.Proofs.YtgebcnnenhgkcaaGreat
open Go.RowKit

/-- A Court of the program, in blocks none of which is in Pr. -/
structure AloneAt (w : World) (Pr : Nat → Prop) (b : Nat) (ws : List Int) (S : Nat → Prop) (ps : List Int) (vs : List Vt) (wv pv vv : Value) : Prop where
  court : CourtAt w b S 0 ws ps vs wv pv vv
  T : Tree ps
  len : vs.length ≤ 300
  okv : OkV ws.length ps vs
  low : ∀ k, S k → ¬ Pr k
  le : ∀ k, Pr k → k < w.heap.size
def Alone (w : World) (Pr : Nat → Prop) (b : Nat) (ws : List Int) : Prop := ∃ S ps vs wv pv vv, AloneAt w Pr b ws S ps vs wv pv vv

section
variable {w w' : World} {Pr : Nat → Prop} {b : Nat} {ws : List Int}

/-- It lies on where nothing of its own is turned. -/
theorem Alone.kept {T : Nat → Prop} (h : Alone w Pr b ws) (hc : Chg T w w') (hT : ∀ k, T k → Pr k ∨ w.heap.size ≤ k) : Alone w' Pr b ws := by
  obtain ⟨S, ps, vs, wv, pv, vv, h⟩ := h
  exact ⟨S, ps, vs, wv, pv, vv, h.court.kept hc (fun k hk ht => (hT k ht).elim (h.low k hk) (fun hle => by have := h.court.lt k hk; omega)), h.T, h.len, h.okv, h.low, fun k hk => Nat.lt_of_lt_of_le (h.le k hk) hc.size⟩
theorem Alone.below (h : Alone w Pr b ws) (hB : Below w.heap.size w w') : Alone w' Pr b ws := h.kept (Chg.of_below (fun _ => False) hB) (fun _ hf => hf.elim)
theorem Alone.setCell (h : Alone w Pr b ws) {p : Addr} (hp : Pr p.block) (u : Value) : Alone (w.setCell p u) Pr b ws :=
  h.kept ((Chg.refl (fun k => k = p.block) w).setCell (.inl rfl) u) (fun k e => .inl (by subst e; exact hp))
theorem Alone.guard (h : Alone w Pr b ws) (o : Obj) : Alone (w.alloc o) (fun k => Pr k ∨ k = w.heap.size) b ws := by
  obtain ⟨S, ps, vs, wv, pv, vv, h⟩ := h
  refine ⟨S, ps, vs, wv, pv, vv, h.court.kept (Chg.alloc (Chg.refl (fun _ => False) w) o) (fun _ _ hf => hf), h.T, h.len, h.okv, ?_, ?_⟩
  · rintro k hk (h1 | h1)
    · exact h.low k hk h1
    · have := h.court.lt k hk; omega
  · rintro k (h1 | h1)
    · have := h.le k h1; simp; omega
    · simp; omega
theorem Alone.weaken {Q : Nat → Prop} (h : Alone w Pr b ws) (hQ : ∀ k, Q k → Pr k) : Alone w Q b ws := by
  obtain ⟨S, ps, vs, wv, pv, vv, h⟩ := h
  exact ⟨S, ps, vs, wv, pv, vv, h.court, h.T, h.len, h.okv, fun k hk hq => h.low k hk (hQ k hq), fun k hk => h.le k (hQ k hk)⟩
/-- A step of the loop's own book-keeping. -/
theorem Alone.grown {row : Option Nat} (h : Alone w Pr b ws) (hg : w.grownBy w' row) (hr : ∀ r, row = some r → ∃ o : Obj, w.heap[r]? = some o ∧ o.isCells = false) : Alone w' Pr b ws := by
  obtain ⟨S, ps, vs, wv, pv, vv, h⟩ := h
  have hc : Chg (fun k => row = some k) w w' := ⟨hg.os, hg.tape, hg.output, hg.size, fun k hk hn => hg.block k hk (fun e => hn e.symm)⟩
  refine ⟨S, ps, vs, wv, pv, vv, h.court.kept hc (fun k hk e => ?_), h.T, h.len, h.okv, h.low, fun k hk => Nat.lt_of_lt_of_le (h.le k hk) hc.size⟩
  obtain ⟨o, ho, hoc⟩ := hr k e
  have := h.court.cells k o hk ho
  rw [hoc] at this; cases this

theorem Alone.vote (h : Alone w Pr b ws) (hw : okW ws = true) (v s t : Int) :
    Calls Tryz.prog 13 #[.pointer (some ⟨b, 0, none⟩), .int .i64 v, .int .i64 s, .int .i64 t] w fun e w' => (∃ r : Int, e = .returned (.int .i64 r)) ∧ Alone w' Pr b ws ∧ Chg (fun k => ¬ Pr k) w w' ∧ KeepsOthers w w' := by
  obtain ⟨S, ps, vs, wv, pv, vv, h⟩ := h
  refine (vote_at b S ws ps vs wv pv vv v s t w h.court h.T (okW_len hw).1 h.len).mono ?_
  rintro e w1 ⟨rfl, S', vv', hC, hc, hs⟩
  refine ⟨⟨_, rfl⟩, ⟨S', ps, _, wv, pv, vv', hC, h.T, votV_len h.len, h.okv.vot _, fun k hk hp => ?_, fun k hk => Nat.lt_of_lt_of_le (h.le k hk) hc.size⟩, hc.mono (fun k _ hk => h.low k hk), hc.keeps h.court.cells⟩
  rcases hs k hk with h1 | h1
  · exact h.low k h1 hp
  · have := h.le k hp; omega

theorem Alone.block (h : Alone w Pr b ws) (hw : okW ws = true) (p : Int) :
    Calls Tryz.prog 12 #[.pointer (some ⟨b, 0, none⟩), .int .i64 p] w fun e w' => (∃ r q : Int, e = .returned (.tuple #[.int .i64 r, .int .i64 q])) ∧ Alone w' Pr b ws ∧ Chg (fun k => ¬ Pr k) w w' := by
  obtain ⟨S, ps, vs, wv, pv, vv, h⟩ := h
  refine (block_at b S ws ps vs wv pv vv p w h.court h.T (okW_len hw).1).mono ?_
  rintro e w1 ⟨rfl, S', pv', hC, hc, hs⟩
  refine ⟨⟨_, _, rfl⟩, ⟨S', _, vs, wv, pv', vv, hC, blkP_tree h.T p, h.len, h.okv.blk h.T p, fun k hk hp => ?_, fun k hk => Nat.lt_of_lt_of_le (h.le k hk) hc.size⟩, hc.mono (fun k _ hk => h.low k hk)⟩
  rcases hs k hk with h1 | h1
  · exact h.low k h1 hp
  · have := h.le k hp; omega

theorem Alone.just (h : Alone w Pr b ws) (hw : okW ws = true) :
    Calls Tryz.prog 15 #[.pointer (some ⟨b, 0, none⟩)] w fun e w' => (∃ v, e = .returned v) ∧ Alone w' Pr b ws ∧ Chg (fun k => ¬ Pr k) w w' ∧ KeepsOthers w w' := by
  obtain ⟨S, ps, vs, wv, pv, vv, h⟩ := h
  refine (just_at b S ws ps vs wv pv vv w h.court h.T (okWs_of hw) h.len h.okv).mono ?_
  rintro e w1 ⟨⟨v, hv, _⟩, hC, hc⟩
  exact ⟨⟨v, hv⟩, ⟨S, ps, vs, wv, pv, vv, hC, h.T, h.len, h.okv, h.low, fun k hk => Nat.lt_of_lt_of_le (h.le k hk) hc.size⟩, hc.mono (fun k _ hk => h.low k hk), hc.keeps h.court.cells⟩

/-- All, while the document's Court and what is in Pr are kept; what it reads is then kept too. -/
theorem BothAt.all {x rb : Nat} {S R : Nat → Prop} {ps : List Int} {vs : List Vt} (h : BothAt w Pr x b rb S R ws ps vs) :
    Calls Tryz.prog 9 #[.pointer (some ⟨b, 0, none⟩)] w fun e w' => ∃ Bx v', e = .returned (.func (.func 68) #[] #[.pointer (some ⟨Bx, 0, none⟩)]) ∧
      Snap w' Bx v' vs ∧ Alone w' (fun k => Pr k ∨ k = x ∨ R k ∨ k = Bx ∨ v'.ownBlock = some k) b ws ∧ Chg S w w' := by
  obtain ⟨wv, pv, vv, hC⟩ := h.court
  refine (all_at b S ws ps vs wv pv vv w hC (okW_len h.okw).1 h.len).mono ?_
  rintro e w1 ⟨Bx, v', rfl, hsn, hBx, hv', hC1, hc1⟩
  refine ⟨Bx, v', rfl, hsn, ⟨S, ps, vs, wv, pv, vv, hC1, h.T, h.len, h.okv, ?_, ?_⟩, hc1⟩
  · rintro k hk (h1 | h1 | h1 | h1 | h1)
    · exact h.lowS k hk h1
    · subst h1; exact h.xS hk
    · exact h.dis k hk h1
    · have := hC.lt k hk; omega
    · have := hC.lt k hk; have := hv' k h1; omega
  · obtain ⟨_, _, _, hR⟩ := h.doc
    have hz := hc1.size
    rintro k (h1 | h1 | h1 | h1 | h1)
    · have := h.le k h1; omega
    · have := h.ltx; omega
    · have := hR.lt k h1; omega
    · subst h1; exact (Array.getElem?_eq_some_iff.1 hsn.box).1
    · exact (hsn.row.lt k h1).2
end
end Go.Proofs.YtgebcnnenhgkcaaGreat
