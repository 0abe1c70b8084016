/- The document's own Vote gives the program's answer. -/
import Derived.Test.YtgebcnnenhgkcaaGreatRefD
namespace Go.Proofs.YtgebcnnenhgkcaaGreat
open Go.RowKit

theorem hasB_iff {n : Nat} {k : Int} : hasB n k = true ↔ 0 ≤ k ∧ k < n := by simp [hasB]
theorem hasB_not {n : Nat} {k : Int} : hasB n k = false ↔ k < 0 ∨ (n : Int) ≤ k := by
  rw [← Bool.not_eq_true, hasB_iff]; omega

theorem refVote_at (b : Nat) (S : Nat → Prop) (ws ps : List Int) (vs : List Vt) (wv pv vv : Value) (x : Vt) (w : World) (h : RefAt w b S ws ps vs wv pv vv) (hT : Tree ps) (hw : 0 < ws.length) (hl : vs.length ≤ 300) :
    Calls Tryz.prog 74 #[.pointer (some ⟨b, 0, none⟩), x.val] w fun e w' => e = .returned (.int .i64 (votE ws.length ps vs x)) ∧
      ∃ (S' : Nat → Prop) (vv' : Value), RefAt w' b S' ws ps (votV ws.length ps vs x) wv pv vv' ∧ Chg S w w' ∧ (∀ k, S' k → S k ∨ w.heap.size ≤ k) := by
  have easy : ∀ f : Int, fault ws.length ps vs x = f → (f != 0) = true → (Calls Tryz.prog 74 #[.pointer (some ⟨b, 0, none⟩), x.val] w fun e w' => e = .returned (.int .i64 f) ∧ Below w.heap.size w w') →
      Calls Tryz.prog 74 #[.pointer (some ⟨b, 0, none⟩), x.val] w fun e w' => e = .returned (.int .i64 (votE ws.length ps vs x)) ∧
      ∃ (S' : Nat → Prop) (vv' : Value), RefAt w' b S' ws ps (votV ws.length ps vs x) wv pv vv' ∧ Chg S w w' ∧ (∀ k, S' k → S k ∨ w.heap.size ≤ k) := fun f hf hf0 hc => by
    have hne : ¬ fault ws.length ps vs x = 0 := by rw [hf]; simpa using hf0
    unfold votE votV
    rw [if_neg hne, if_neg hne]
    refine hc.mono ?_
    rintro e w' ⟨rfl, hB⟩
    exact ⟨by rw [hf], S, vv, h.kept (Chg.of_below (fun _ => False) hB) (fun _ _ hf => hf), Chg.of_below S hB, fun k hk => .inl hk⟩
  cases hv : hasB ws.length x.v
  · refine easy 3 (by simp [fault, hv]) rfl ?_
    rcases hasB_not.1 hv with h1 | h1
    · exact refVote_v0 b S ws ps vs wv pv vv x w h hT hw h1
    · exact refVote_v1 b S ws ps vs wv pv vv x w h hT hw (by omega) h1
  obtain ⟨hv0, hv1⟩ := hasB_iff.1 hv
  cases hs : hasB ps.length x.s
  · refine easy 4 (by simp [fault, hv, hs]) rfl ?_
    rcases hasB_not.1 hs with h1 | h1
    · exact refVote_s0 b S ws ps vs wv pv vv x w h hT hw hv0 hv1 h1
    · exact refVote_s1 b S ws ps vs wv pv vv x w h hT hw hv0 hv1 (by omega) h1
  obtain ⟨hs0, hs1⟩ := hasB_iff.1 hs
  cases ht : hasB ps.length x.t
  · refine easy 4 (by simp [fault, hv, ht]) rfl ?_
    rcases hasB_not.1 ht with h1 | h1
    · exact refVote_t0 b S ws ps vs wv pv vv x w h hT hw hv0 hv1 hs0 hs1 h1
    · exact refVote_t1 b S ws ps vs wv pv vv x w h hT hw hv0 hv1 hs0 hs1 (by omega) h1
  obtain ⟨ht0, ht1⟩ := hasB_iff.1 ht
  cases ha : ahead ps x.s x.t
  · exact easy 5 (by simp [fault, hv, hs, ht, ha]) rfl (refVote_5 b S ws ps vs wv pv vv x w h hT hw hv0 hv1 hs0 hs1 ht0 ht1 ha)
  · have h6 := refVote_6 b S ws ps vs wv pv vv x w h hT hw hv0 hv1 hs0 hs1 ht0 ht1 ha hl
    have e1 : votE ws.length ps vs x = lastE vs x := by
      cases hany : vs.any (fun y => x.is y) <;> simp [votE, lastE, fault, hv, hs, ht, ha, hany]
    have e2 : votV ws.length ps vs x = lastV vs x := by
      cases hany : vs.any (fun y => x.is y) <;> simp [votV, lastV, fault, hv, hs, ht, ha, hany]
    rw [e1, e2]
    exact h6
end Go.Proofs.YtgebcnnenhgkcaaGreat
