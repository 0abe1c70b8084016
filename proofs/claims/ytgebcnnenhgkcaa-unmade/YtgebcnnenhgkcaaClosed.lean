/- Every call on a Court that is none (nil, or one that the caller made): it answers that it is closed, or nothing. -/
import Derived.Test.YtgebcnnenhgkcaaLock2
namespace Go.Proofs.Ytgebcnnenhgkcaa
open Go.MuLone

/-- The Court at ⟨b, o⟩ is one that the caller made: the mutex free, no weights. -/
structure Bare (b o : Nat) (w : World) : Prop where
  st : w.cell? ⟨b, o, none⟩ = some (.int .i32 0)
  fz : w.frozen? ⟨b, o, none⟩ = false
  ws : w.cell? ⟨b, o + 2, none⟩ = some (.slice none 0 0)

/-- A lock taken and let go. -/
def locked (b o : Nat) (w : World) : World := (w.setCell ⟨b, o, none⟩ (.int .i32 1)).setCell ⟨b, o, none⟩ (.int .i32 0)

theorem Bare.locked {b o : Nat} {w : World} (h : Bare b o w) : Bare b o (locked b o w) := by
  refine ⟨World.cell?_setCell_same _ _ _ (World.cell?_setCell_same _ _ _ h.st), by simp [Go.Proofs.Ytgebcnnenhgkcaa.locked, h.fz], ?_⟩
  unfold Go.Proofs.Ytgebcnnenhgkcaa.locked
  rw [World.cell?_setCell_other _ _ _ _ (by simp), World.cell?_setCell_other _ _ _ _ (by simp)]
  exact h.ws

theorem block_nil (p : Int) (w : World) :
    Calls Try.prog 11 #[.pointer none, .int .i64 p] w fun e w' => e = .returned (.tuple #[.int .i64 0, .int .i64 11]) ∧ w' = w := by
  go_enter_defers Try.func11, Try.ntmps11
  go_wp2_with (first | (go_at_call 32; refine (lock_nil _).mono ?_; rintro e w' ⟨rfl, rfl⟩) | (go_at_call 34; refine (made_nil _).mono ?_; rintro e w' ⟨rfl, rfl⟩))
  refine leaves_cons (f := 33) (args := #[.pointer none]) (by simp) (by simp [go_sem]) ?_
  refine (unlock_nil .returning _).mono ?_
  rintro e u' w'' ⟨rfl, rfl, rfl⟩
  exact ⟨_, results_tmp2 rfl _ _ _, rfl, rfl⟩

theorem block_bare (b o : Nat) (p : Int) (w : World) (h : Bare b o w) :
    Calls Try.prog 11 #[.pointer (some ⟨b, o, none⟩), .int .i64 p] w fun e w' => e = .returned (.tuple #[.int .i64 0, .int .i64 11]) ∧ w' = locked b o w := by
  obtain ⟨h0, hf, h2⟩ := h
  have h2' : (w.setCell ⟨b, o, none⟩ (.int .i32 1)).cell? ⟨b, o + 2, none⟩ = some (.slice none 0 0) := by
    rw [World.cell?_setCell_other _ _ _ _ (by simp)]; exact h2
  go_enter_defers Try.func11, Try.ntmps11
  go_wp2_with (first | (go_at_call 32; refine (lock_at b o _ h0 hf).mono ?_; rintro e w' ⟨rfl, rfl⟩) | (go_at_call 34; refine (made_at b o none 0 0 _ h2').mono ?_; rintro e w' ⟨rfl, rfl⟩))
  refine leaves_cons (f := 33) (args := #[.pointer (some ⟨b, o, none⟩)]) (by simp) (by simp [go_sem]) ?_
  refine (unlock_at b o .returning _ ?_ ?_).mono ?_
  · exact World.cell?_setCell_same _ _ _ h0
  · simp [hf]
  rintro e u' w'' ⟨rfl, rfl, rfl⟩
  exact ⟨_, results_tmp2 rfl _ _ _, rfl, rfl⟩

theorem vote_nil (v s t : Int) (w : World) :
    Calls Try.prog 13 #[.pointer none, .int .i64 v, .int .i64 s, .int .i64 t] w fun e w' => e = .returned (.int .i64 11) ∧ w' = w := by
  go_enter_defers Try.func13, Try.ntmps13
  go_wp2_with (first | (go_at_call 32; refine (lock_nil _).mono ?_; rintro e w' ⟨rfl, rfl⟩) | (go_at_call 34; refine (made_nil _).mono ?_; rintro e w' ⟨rfl, rfl⟩))
  refine leaves_cons (f := 33) (args := #[.pointer none]) (by simp) (by simp [go_sem]) ?_
  refine (unlock_nil .returning _).mono ?_
  rintro e u' w'' ⟨rfl, rfl, rfl⟩
  exact ⟨_, results_tmp rfl _ _ _, rfl, rfl⟩

theorem vote_bare (b o : Nat) (v s t : Int) (w : World) (h : Bare b o w) :
    Calls Try.prog 13 #[.pointer (some ⟨b, o, none⟩), .int .i64 v, .int .i64 s, .int .i64 t] w fun e w' => e = .returned (.int .i64 11) ∧ w' = locked b o w := by
  obtain ⟨h0, hf, h2⟩ := h
  have h2' : (w.setCell ⟨b, o, none⟩ (.int .i32 1)).cell? ⟨b, o + 2, none⟩ = some (.slice none 0 0) := by
    rw [World.cell?_setCell_other _ _ _ _ (by simp)]; exact h2
  go_enter_defers Try.func13, Try.ntmps13
  go_wp2_with (first | (go_at_call 32; refine (lock_at b o _ h0 hf).mono ?_; rintro e w' ⟨rfl, rfl⟩) | (go_at_call 34; refine (made_at b o none 0 0 _ h2').mono ?_; rintro e w' ⟨rfl, rfl⟩))
  refine leaves_cons (f := 33) (args := #[.pointer (some ⟨b, o, none⟩)]) (by simp) (by simp [go_sem]) ?_
  refine (unlock_at b o .returning _ ?_ ?_).mono ?_
  · exact World.cell?_setCell_same _ _ _ h0
  · simp [hf]
  rintro e u' w'' ⟨rfl, rfl, rfl⟩
  exact ⟨_, results_tmp rfl _ _ _, rfl, rfl⟩

theorem proof_nil (p : Int) (w : World) :
    Calls Try.prog 30 #[.pointer none, .int .i64 p] w fun e w' => e = .returned (.tuple #[.slice none 0 0, .int .i64 11]) ∧ w' = w := by
  go_enter_defers Try.func30, Try.ntmps30
  go_wp2_with (first | (go_at_call 32; refine (lock_nil _).mono ?_; rintro e w' ⟨rfl, rfl⟩) | (go_at_call 34; refine (made_nil _).mono ?_; rintro e w' ⟨rfl, rfl⟩))
  refine leaves_cons (f := 33) (args := #[.pointer none]) (by simp) (by simp [go_sem]) ?_
  refine (unlock_nil .returning _).mono ?_
  rintro e u' w'' ⟨rfl, rfl, rfl⟩
  exact ⟨_, results_tmp2 rfl _ _ _, rfl, rfl⟩

theorem proof_bare (b o : Nat) (p : Int) (w : World) (h : Bare b o w) :
    Calls Try.prog 30 #[.pointer (some ⟨b, o, none⟩), .int .i64 p] w fun e w' => e = .returned (.tuple #[.slice none 0 0, .int .i64 11]) ∧ w' = locked b o w := by
  obtain ⟨h0, hf, h2⟩ := h
  have h2' : (w.setCell ⟨b, o, none⟩ (.int .i32 1)).cell? ⟨b, o + 2, none⟩ = some (.slice none 0 0) := by
    rw [World.cell?_setCell_other _ _ _ _ (by simp)]; exact h2
  go_enter_defers Try.func30, Try.ntmps30
  go_wp2_with (first | (go_at_call 32; refine (lock_at b o _ h0 hf).mono ?_; rintro e w' ⟨rfl, rfl⟩) | (go_at_call 34; refine (made_at b o none 0 0 _ h2').mono ?_; rintro e w' ⟨rfl, rfl⟩))
  refine leaves_cons (f := 33) (args := #[.pointer (some ⟨b, o, none⟩)]) (by simp) (by simp [go_sem]) ?_
  refine (unlock_at b o .returning _ ?_ ?_).mono ?_
  · exact World.cell?_setCell_same _ _ _ h0
  · simp [hf]
  rintro e u' w'' ⟨rfl, rfl, rfl⟩
  exact ⟨_, results_tmp2 rfl _ _ _, rfl, rfl⟩

theorem just_nil (w : World) :
    Calls Try.prog 14 #[.pointer none] w fun e w' => e = .returned (.slice none 0 0) ∧ w' = w := by
  go_enter_defers Try.func14, Try.ntmps14
  go_wp2_with (first | (go_at_call 32; refine (lock_nil _).mono ?_; rintro e w' ⟨rfl, rfl⟩) | (go_at_call 34; refine (made_nil _).mono ?_; rintro e w' ⟨rfl, rfl⟩))
  refine leaves_cons (f := 33) (args := #[.pointer none]) (by simp) (by simp [go_sem]) ?_
  refine (unlock_nil .returning _).mono ?_
  rintro e u' w'' ⟨rfl, rfl, rfl⟩
  exact ⟨_, results_tmp rfl _ _ _, rfl, rfl⟩

theorem just_bare (b o : Nat) (w : World) (h : Bare b o w) :
    Calls Try.prog 14 #[.pointer (some ⟨b, o, none⟩)] w fun e w' => e = .returned (.slice none 0 0) ∧ w' = locked b o w := by
  obtain ⟨h0, hf, h2⟩ := h
  have h2' : (w.setCell ⟨b, o, none⟩ (.int .i32 1)).cell? ⟨b, o + 2, none⟩ = some (.slice none 0 0) := by
    rw [World.cell?_setCell_other _ _ _ _ (by simp)]; exact h2
  go_enter_defers Try.func14, Try.ntmps14
  go_wp2_with (first | (go_at_call 32; refine (lock_at b o _ h0 hf).mono ?_; rintro e w' ⟨rfl, rfl⟩) | (go_at_call 34; refine (made_at b o none 0 0 _ h2').mono ?_; rintro e w' ⟨rfl, rfl⟩))
  refine leaves_cons (f := 33) (args := #[.pointer (some ⟨b, o, none⟩)]) (by simp) (by simp [go_sem]) ?_
  refine (unlock_at b o .returning _ ?_ ?_).mono ?_
  · exact World.cell?_setCell_same _ _ _ h0
  · simp [hf]
  rintro e u' w'' ⟨rfl, rfl, rfl⟩
  exact ⟨_, results_tmp rfl _ _ _, rfl, rfl⟩

theorem final_nil (w : World) :
    Calls Try.prog 15 #[.pointer none] w fun e w' => e = .returned (.slice none 0 0) ∧ w' = w := by
  go_enter_defers Try.func15, Try.ntmps15
  go_wp2_with (first | (go_at_call 32; refine (lock_nil _).mono ?_; rintro e w' ⟨rfl, rfl⟩) | (go_at_call 34; refine (made_nil _).mono ?_; rintro e w' ⟨rfl, rfl⟩))
  refine leaves_cons (f := 33) (args := #[.pointer none]) (by simp) (by simp [go_sem]) ?_
  refine (unlock_nil .returning _).mono ?_
  rintro e u' w'' ⟨rfl, rfl, rfl⟩
  exact ⟨_, results_tmp rfl _ _ _, rfl, rfl⟩

theorem final_bare (b o : Nat) (w : World) (h : Bare b o w) :
    Calls Try.prog 15 #[.pointer (some ⟨b, o, none⟩)] w fun e w' => e = .returned (.slice none 0 0) ∧ w' = locked b o w := by
  obtain ⟨h0, hf, h2⟩ := h
  have h2' : (w.setCell ⟨b, o, none⟩ (.int .i32 1)).cell? ⟨b, o + 2, none⟩ = some (.slice none 0 0) := by
    rw [World.cell?_setCell_other _ _ _ _ (by simp)]; exact h2
  go_enter_defers Try.func15, Try.ntmps15
  go_wp2_with (first | (go_at_call 32; refine (lock_at b o _ h0 hf).mono ?_; rintro e w' ⟨rfl, rfl⟩) | (go_at_call 34; refine (made_at b o none 0 0 _ h2').mono ?_; rintro e w' ⟨rfl, rfl⟩))
  refine leaves_cons (f := 33) (args := #[.pointer (some ⟨b, o, none⟩)]) (by simp) (by simp [go_sem]) ?_
  refine (unlock_at b o .returning _ ?_ ?_).mono ?_
  · exact World.cell?_setCell_same _ _ _ h0
  · simp [hf]
  rintro e u' w'' ⟨rfl, rfl, rfl⟩
  exact ⟨_, results_tmp rfl _ _ _, rfl, rfl⟩

theorem guilty_nil (w : World) :
    Calls Try.prog 16 #[.pointer none] w fun e w' => e = .returned (.slice none 0 0) ∧ w' = w := by
  go_enter_defers Try.func16, Try.ntmps16
  go_wp2_with (first | (go_at_call 32; refine (lock_nil _).mono ?_; rintro e w' ⟨rfl, rfl⟩) | (go_at_call 34; refine (made_nil _).mono ?_; rintro e w' ⟨rfl, rfl⟩))
  refine leaves_cons (f := 33) (args := #[.pointer none]) (by simp) (by simp [go_sem]) ?_
  refine (unlock_nil .returning _).mono ?_
  rintro e u' w'' ⟨rfl, rfl, rfl⟩
  exact ⟨_, results_tmp rfl _ _ _, rfl, rfl⟩

theorem guilty_bare (b o : Nat) (w : World) (h : Bare b o w) :
    Calls Try.prog 16 #[.pointer (some ⟨b, o, none⟩)] w fun e w' => e = .returned (.slice none 0 0) ∧ w' = locked b o w := by
  obtain ⟨h0, hf, h2⟩ := h
  have h2' : (w.setCell ⟨b, o, none⟩ (.int .i32 1)).cell? ⟨b, o + 2, none⟩ = some (.slice none 0 0) := by
    rw [World.cell?_setCell_other _ _ _ _ (by simp)]; exact h2
  go_enter_defers Try.func16, Try.ntmps16
  go_wp2_with (first | (go_at_call 32; refine (lock_at b o _ h0 hf).mono ?_; rintro e w' ⟨rfl, rfl⟩) | (go_at_call 34; refine (made_at b o none 0 0 _ h2').mono ?_; rintro e w' ⟨rfl, rfl⟩))
  refine leaves_cons (f := 33) (args := #[.pointer (some ⟨b, o, none⟩)]) (by simp) (by simp [go_sem]) ?_
  refine (unlock_at b o .returning _ ?_ ?_).mono ?_
  · exact World.cell?_setCell_same _ _ _ h0
  · simp [hf]
  rintro e u' w'' ⟨rfl, rfl, rfl⟩
  exact ⟨_, results_tmp rfl _ _ _, rfl, rfl⟩
end Go.Proofs.Ytgebcnnenhgkcaa
