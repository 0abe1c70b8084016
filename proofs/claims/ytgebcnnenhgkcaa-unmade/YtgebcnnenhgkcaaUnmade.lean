/- Unmade: every call (but All) on a nil Court, and on one that the caller made, answers that it is closed, or nothing. -/
import Derived.Test.YtgebcnnenhgkcaaClosed
import Derived.ProofKit
import Derived.OpenShut
namespace Go.Proofs.Ytgebcnnenhgkcaa
open Go.ChangeShapes Go.WideShapes Go.ChangeAt Go.RowKit
set_option linter.unusedVariables false

set_option maxHeartbeats 800000 in
theorem none_nil (w : World) :
    Calls Try.prog 8 #[.pointer none] w fun e w' => e = .returned (.bool true) ∧ w' = w := by
  go_enter Try.func8, Try.ntmps8
  go_wp2_with (first
    | (go_at_call 11; refine (block_nil _ _).mono ?_; rintro e w' ⟨rfl, rfl⟩)
    | (go_at_call 13; refine (vote_nil _ _ _ _).mono ?_; rintro e w' ⟨rfl, rfl⟩)
    | (go_at_call 30; refine (proof_nil _ _).mono ?_; rintro e w' ⟨rfl, rfl⟩)
    | (go_at_call 14; refine (just_nil _).mono ?_; rintro e w' ⟨rfl, rfl⟩)
    | (go_at_call 15; refine (final_nil _).mono ?_; rintro e w' ⟨rfl, rfl⟩)
    | (go_at_call 16; refine (guilty_nil _).mono ?_; rintro e w' ⟨rfl, rfl⟩)
    | (go_at_call 29; go_in))
  go_ret
  exact ⟨rfl, rfl⟩

/-- Behind a call on such a Court: it is as bare as it was, and nothing below it has turned. -/
def Kept (b o : Nat) (w w' : World) : Prop := Bare b o w' ∧ Below b w w'
theorem Kept.locked {b o : Nat} {w : World} (h : Bare b o w) : Kept b o w (locked b o w) :=
  ⟨h.locked, ((Below.refl b w).setCell (p := ⟨b, o, none⟩) (Nat.le_refl b) _).setCell (p := ⟨b, o, none⟩) (Nat.le_refl b) _⟩
theorem Kept.trans {b o : Nat} {u v w : World} (h : Kept b o u v) (k : Kept b o v w) : Kept b o u w := ⟨k.1, h.2.trans k.2⟩

set_option maxHeartbeats 800000 in
theorem none_bare (b o : Nat) (w : World) (h : Bare b o w) :
    Calls Try.prog 8 #[.pointer (some ⟨b, o, none⟩)] w fun e w' => e = .returned (.bool true) ∧ Kept b o w w' := by
  have hk : Kept b o w w := ⟨h, Below.refl _ _⟩
  go_enter Try.func8, Try.ntmps8
  go_wp2_with (first
    | (go_at_call 11; refine (block_bare b o _ _ hk.1).mono ?_; rintro e w1 ⟨rfl, hw⟩; replace hk := hk.trans (hw ▸ Kept.locked hk.1); clear hw)
    | (go_at_call 13; refine (vote_bare b o _ _ _ _ hk.1).mono ?_; rintro e w1 ⟨rfl, hw⟩; replace hk := hk.trans (hw ▸ Kept.locked hk.1); clear hw)
    | (go_at_call 30; refine (proof_bare b o _ _ hk.1).mono ?_; rintro e w1 ⟨rfl, hw⟩; replace hk := hk.trans (hw ▸ Kept.locked hk.1); clear hw)
    | (go_at_call 14; refine (just_bare b o _ hk.1).mono ?_; rintro e w1 ⟨rfl, hw⟩; replace hk := hk.trans (hw ▸ Kept.locked hk.1); clear hw)
    | (go_at_call 15; refine (final_bare b o _ hk.1).mono ?_; rintro e w1 ⟨rfl, hw⟩; replace hk := hk.trans (hw ▸ Kept.locked hk.1); clear hw)
    | (go_at_call 16; refine (guilty_bare b o _ hk.1).mono ?_; rintro e w1 ⟨rfl, hw⟩; replace hk := hk.trans (hw ▸ Kept.locked hk.1); clear hw)
    | (go_at_call 29; go_in))
  go_ret
  exact ⟨rfl, hk⟩

set_option maxHeartbeats 800000 in
theorem unmade_walk (w : World) :
    Calls Try.prog 4 #[] w fun e w' => e = .returned (.bool true) ∧ Below w.heap.size w w' := by
  go_enter Try.func4, Try.ntmps4
  go_wp2_with fail
  refine (none_nil _).mono ?_
  rintro e w' ⟨rfl, rfl⟩
  go_wp2_with fail
  refine (none_bare w'.heap.size 0 _ ?_).mono ?_
  · exact ⟨by simp [go_sem], by simp [go_sem], by simp [go_sem]⟩
  rintro e w1 ⟨rfl, hk⟩
  go_wp2
  go_ret
  exact ⟨rfl, ((Below.refl _ _).alloc (Nat.le_refl _) _).trans hk.2⟩
end Go.Proofs.Ytgebcnnenhgkcaa
