/- Vote: a vote more, or what speaks against it. -/
import Derived.Test.YtgebcnnenhgkcaaGiveB
namespace Go.Proofs.Ytgebcnnenhgkcaa
open Go.RowKit

def votE (nw : Nat) (ps : List Int) (vs : List Vt) (x : Vt) : Int := if fault nw ps vs x = 0 then manyE vs else fault nw ps vs x
def votV (nw : Nat) (ps : List Int) (vs : List Vt) (x : Vt) : List Vt := if fault nw ps vs x = 0 then manyV vs x else vs

theorem give_at (b : Nat) (S : Nat → Prop) (ws ps : List Int) (vs : List Vt) (wv pv vv : Value) (x : Vt) (w : World) (h : CourtAt w b S 1 ws ps vs wv pv vv) (hT : Tree ps) (hw : 0 < ws.length) (hl : vs.length ≤ 300) :
    Calls Try.prog 36 #[.pointer (some ⟨b, 0, none⟩), x.val] w fun e w' => e = .returned (.int .i64 (votE ws.length ps vs x)) ∧
      ∃ (S' : Nat → Prop) (vv' : Value), CourtAt w' b S' 1 ws ps (votV ws.length ps vs x) wv pv vv' ∧ Chg S w w' ∧ (∀ k, S' k → S k ∨ w.heap.size ≤ k) := by
  unfold votE votV
  by_cases hf : fault ws.length ps vs x = 0
  · rw [if_pos hf, if_pos hf]
    exact give_app b S ws ps vs wv pv vv x w h hT hw hl hf
  · rw [if_neg hf, if_neg hf]
    exact give_fault b S ws ps vs wv pv vv x w h hT hw hl _ rfl (by simpa using hf)

theorem votV_len {nw : Nat} {ps : List Int} {vs : List Vt} {x : Vt} (h : vs.length ≤ 300) : (votV nw ps vs x).length ≤ 300 := by
  unfold votV manyV
  split
  · split
    · exact h
    · simp; omega
  · exact h

set_option maxHeartbeats 1000000 in
/-- Vote. -/
theorem vote_at (b : Nat) (S : Nat → Prop) (ws ps : List Int) (vs : List Vt) (wv pv vv : Value) (v s t : Int) (w : World) (h : CourtAt w b S 0 ws ps vs wv pv vv) (hT : Tree ps) (hw : 0 < ws.length) (hl : vs.length ≤ 300) :
    Calls Try.prog 13 #[.pointer (some ⟨b, 0, none⟩), .int .i64 v, .int .i64 s, .int .i64 t] w fun e w' => e = .returned (.int .i64 (votE ws.length ps vs ⟨v, s, t⟩)) ∧
      ∃ (S' : Nat → Prop) (vv' : Value), CourtAt w' b S' 0 ws ps (votV ws.length ps vs ⟨v, s, t⟩) wv pv vv' ∧ Chg S w w' ∧ (∀ k, S' k → S k ∨ w.heap.size ≤ k) := by
  obtain ⟨gw, capw, rfl, _, _, _, _⟩ := row_open h.wrow hw
  obtain ⟨h1, c1⟩ := h.setM 1
  have hd : decide (0 < ws.length) = true := by simpa using hw
  go_enter_defers Try.func13, Try.ntmps13
  go_wp2_with fail
  refine (lock_at b 0 _ h.c0 (h.fz 0)).mono ?_
  rintro e w1 ⟨rfl, hw1⟩
  rw [← hw1] at h1 c1
  clear hw1
  go_wp2_with fail
  refine (made_at b 0 _ _ _ _ h1.c2).mono ?_
  rintro e w2 ⟨rfl, rfl⟩
  rw [hd]
  go_wp2_with fail
  refine (give_at b S ws ps vs _ pv vv ⟨v, s, t⟩ _ h1 hT hw hl).mono ?_
  rintro e w3 ⟨rfl, S', vv', h3, c3, s3⟩
  go_wp2_with fail
  refine leaves_cons (f := 33) (args := #[.pointer (some ⟨b, 0, none⟩)]) (by simp) (by simp [go_sem]) ?_
  refine (unlock_at b 0 .returning _ h3.c0 (h3.fz 0)).mono ?_
  rintro e u' w'' ⟨rfl, rfl, rfl⟩
  obtain ⟨h4, c4⟩ := h3.setM 0
  refine ⟨_, results_tmp rfl _ _ _, rfl, S', vv', h4, (c1.trans c3).then c4 (fun k hk => (s3 k hk).imp id (fun hle => Nat.le_trans c1.size hle)), fun k hk => (s3 k hk).imp id (fun hle => Nat.le_trans c1.size hle)⟩
end Go.Proofs.Ytgebcnnenhgkcaa
