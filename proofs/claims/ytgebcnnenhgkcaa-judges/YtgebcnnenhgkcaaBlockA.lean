/- Block: a block more, or what speaks against it. -/
import Derived.Test.YtgebcnnenhgkcaaLay
namespace Go.Proofs.Ytgebcnnenhgkcaa
open Go.RowKit

def blkN (ps : List Int) (p : Int) : Int := if hasB ps.length p = false then 0 else if 40 ≤ ps.length then 0 else ps.length
def blkE (ps : List Int) (p : Int) : Int := if hasB ps.length p = false then 4 else if 40 ≤ ps.length then 7 else 0
def blkP (ps : List Int) (p : Int) : List Int := if hasB ps.length p = false then ps else if 40 ≤ ps.length then ps else ps ++ [p]

theorem lay_at (b : Nat) (S : Nat → Prop) (ws ps : List Int) (vs : List Vt) (wv pv vv : Value) (p : Int) (w : World) (h : CourtAt w b S 1 ws ps vs wv pv vv) (hT : Tree ps) :
    Calls Try.prog 35 #[.pointer (some ⟨b, 0, none⟩), .int .i64 p] w fun e w' => e = .returned (.tuple #[.int .i64 (blkN ps p), .int .i64 (blkE ps p)]) ∧
      ∃ (S' : Nat → Prop) (pv' : Value), CourtAt w' b S' 1 ws (blkP ps p) vs wv pv' vv ∧ Chg S w w' ∧ (∀ k, S' k → S k ∨ w.heap.size ≤ k) := by
  unfold blkN blkE blkP
  cases hh : hasB ps.length p
  · simpa using lay_none b S ws ps vs wv pv vv p w h hT.1 hh
  · by_cases hf : 40 ≤ ps.length
    · simpa [hf] using lay_many b S ws ps vs wv pv vv p w h hT.1 hh hf hT.2.1
    · simpa [hf] using lay_ok b S ws ps vs wv pv vv p w h hT.1 hh (by omega)

theorem blkP_tree {ps : List Int} (hT : Tree ps) (p : Int) : Tree (blkP ps p) := by
  unfold blkP
  split
  · exact hT
  · rename_i hh
    split
    · exact hT
    · rename_i hf
      have hh' : 0 ≤ p ∧ p < ps.length := by
        have : hasB ps.length p = true := by simpa using hh
        simpa [hasB] using this
      refine ⟨by simp, by simp; omega, ?_, ?_⟩
      · rw [List.getElem?_append_left hT.1]; exact hT.2.2.1
      · intro i hi hl
        simp at hl
        by_cases e : i < ps.length
        · rw [List.getElem?_append_left e]; exact hT.2.2.2 i hi e
        · have : i = ps.length := by omega
          subst this
          simp; omega

set_option maxHeartbeats 1000000 in
/-- Block. -/
theorem block_at (b : Nat) (S : Nat → Prop) (ws ps : List Int) (vs : List Vt) (wv pv vv : Value) (p : Int) (w : World) (h : CourtAt w b S 0 ws ps vs wv pv vv) (hT : Tree ps) (hw : 0 < ws.length) :
    Calls Try.prog 11 #[.pointer (some ⟨b, 0, none⟩), .int .i64 p] w fun e w' => e = .returned (.tuple #[.int .i64 (blkN ps p), .int .i64 (blkE ps p)]) ∧
      ∃ (S' : Nat → Prop) (pv' : Value), CourtAt w' b S' 0 ws (blkP ps p) vs wv pv' vv ∧ Chg S w w' ∧ (∀ k, S' k → S k ∨ w.heap.size ≤ k) := by
  obtain ⟨gw, capw, rfl, _, _, _, _⟩ := row_open h.wrow hw
  obtain ⟨h1, c1⟩ := h.setM 1
  have hd : decide (0 < ws.length) = true := by simpa using hw
  go_enter_defers Try.func11, Try.ntmps11
  go_wp2_with fail
  refine (lock_at b 0 _ h.c0 (h.fz 0)).mono ?_
  rintro e w1 ⟨rfl, hw1⟩
  rw [← hw1] at h1 c1
  clear hw1
  go_wp2_with fail
  refine (made_at b 0 _ _ _ _ h1.c2).mono ?_
  rintro e w2 ⟨rfl, rfl⟩
  rw [hd]
  go_wp2_with fail
  refine (lay_at b S ws ps vs _ pv vv p _ h1 hT).mono ?_
  rintro e w3 ⟨rfl, S', pv', h3, c3, s3⟩
  go_wp2_with fail
  refine leaves_cons (f := 33) (args := #[.pointer (some ⟨b, 0, none⟩)]) (by simp) (by simp [go_sem]) ?_
  refine (unlock_at b 0 .returning _ h3.c0 (h3.fz 0)).mono ?_
  rintro e u' w'' ⟨rfl, rfl, rfl⟩
  obtain ⟨h4, c4⟩ := h3.setM 0
  refine ⟨_, results_tmp2 rfl _ _ _, rfl, S', pv', h4, (c1.trans c3).then c4 (fun k hk => (s3 k hk).imp id (fun hle => Nat.le_trans c1.size hle)), fun k hk => (s3 k hk).imp id (fun hle => Nat.le_trans c1.size hle)⟩
end Go.Proofs.Ytgebcnnenhgkcaa
