/- Plain mathematics of the tree and of the votes: nothing of the program is named here. -/
import Derived.Below
import Derived.Test.YtgebcnnenhgkcaaGreatProg
import Derived.Conc.MuLib
import Derived.Conc.MuData
import Derived.KernelRfl
import Derived.Test.YtgebcnnenhgkcaaGreatRows
import Derived.Conc.MuLone
import Derived.WalkKit
import Derived.Handy
namespace Go.Proofs.YtgebcnnenhgkcaaGreat

/-- Those ahead of a block: its parent first, the root last. -/
def upF (ps : List Int) : Nat → Int → List Int
  | 0, _ => []
  | f + 1, b => if b = 0 then [] else ps[b.toNat]?.getD 0 :: upF ps f (ps[b.toNat]?.getD 0)

/-- Parents: the first is 0, each other one is not below 0 and below its place. -/
def Tree (ps : List Int) : Prop := 0 < ps.length ∧ ps.length ≤ 40 ∧ ps[0]?.getD 0 = 0 ∧ ∀ i : Nat, 0 < i → i < ps.length → 0 ≤ ps[i]?.getD 0 ∧ ps[i]?.getD 0 < (i : Int)

def up (ps : List Int) (b : Int) : List Int := upF ps b.toNat b

theorem upF_fuel {ps : List Int} (h : Tree ps) : ∀ (f g : Nat) (b : Int), 0 ≤ b → b.toNat < ps.length → b.toNat ≤ f → b.toNat ≤ g → upF ps f b = upF ps g b := by
  intro f
  induction f with
  | zero =>
    intro g b h0 hl hf hg
    have : b = 0 := by omega
    subst this
    cases g <;> simp [upF]
  | succ f ih =>
    intro g b h0 hl hf hg
    by_cases hb : b = 0
    · subst hb
      cases g <;> simp [upF]
    · cases g with
      | zero => omega
      | succ g =>
        have hp := h.2.2.2 b.toNat (by omega) hl
        simp only [upF, if_neg hb]
        rw [ih g _ hp.1 (by omega) (by omega) (by omega)]

theorem up_zero (ps : List Int) : up ps 0 = [] := rfl
theorem up_step {ps : List Int} (h : Tree ps) {b : Int} (h0 : 0 < b) (hl : b.toNat < ps.length) : up ps b = ps[b.toNat]?.getD 0 :: up ps (ps[b.toNat]?.getD 0) := by
  have hp := h.2.2.2 b.toNat (by omega) hl
  obtain ⟨f, hf⟩ : ∃ f, b.toNat = f + 1 := ⟨b.toNat - 1, by omega⟩
  have : up ps b = upF ps (f + 1) b := by unfold up; rw [hf]
  rw [this]
  simp only [upF]
  rw [if_neg (by omega)]
  congr 1
  exact upF_fuel h _ _ _ hp.1 (by omega) (by omega) (Nat.le_refl _)

/-- A block is ahead of another one. -/
def ahead (ps : List Int) (a b : Int) : Bool := (up ps b).any (fun x => x == a)

theorem ahead_zero (ps : List Int) (a : Int) : ahead ps a 0 = false := rfl
theorem ahead_step {ps : List Int} (h : Tree ps) {a b : Int} (h0 : 0 < b) (hl : b.toNat < ps.length) : ahead ps a b = (ps[b.toNat]?.getD 0 == a || ahead ps a (ps[b.toNat]?.getD 0)) := by
  unfold ahead; rw [up_step h h0 hl]; rfl

/-- A vote: its voter, source and target. -/
structure Vt where
  v : Int
  s : Int
  t : Int

def Vt.is (x y : Vt) : Bool := x.v == y.v && (x.s == y.s && x.t == y.t)
theorem Vt.is_iff {x y : Vt} : x.is y = true ↔ x = y := by
  cases x; cases y; simp [Vt.is]
theorem Vt.is_false {x y : Vt} : x.is y = false ↔ x ≠ y := by
  rw [← Bool.not_eq_true, Vt.is_iff]

abbrev I64 (x : Int) : Value := .int .i64 x
abbrev Vt.val (x : Vt) : Value := .agg #[I64 x.v, I64 x.s, I64 x.t]
def vtCells (x : Vt) : List Value := [I64 x.v, I64 x.s, I64 x.t]
def vtRow (vs : List Vt) : List Value := vs.flatMap vtCells

theorem vtRow_length (vs : List Vt) : (vtRow vs).length = vs.length * 3 := by
  induction vs with
  | nil => rfl
  | cons x r ih => simp [vtRow, vtCells] at *; omega
theorem vtRow_append (a b : List Vt) : vtRow (a ++ b) = vtRow a ++ vtRow b := by simp [vtRow]
theorem vtRow_at (vs : List Vt) (i : Nat) (x : Vt) (h : vs[i]? = some x) : (vtRow vs)[3 * i]? = some (I64 x.v) ∧ (vtRow vs)[3 * i + 1]? = some (I64 x.s) ∧ (vtRow vs)[3 * i + 2]? = some (I64 x.t) := by
  induction vs generalizing i with
  | nil => simp at h
  | cons y r ih =>
    cases i with
    | zero => simp at h; subst h; simp [vtRow, vtCells]
    | succ i =>
      have := ih i (by simpa using h)
      have e : vtRow (y :: r) = vtCells y ++ vtRow r := by simp [vtRow]
      rw [e]
      refine ⟨?_, ?_, ?_⟩
      · rw [List.getElem?_append_right (by simp [vtCells]; omega)]; simp only [vtCells, List.length_cons, List.length_nil]; rw [show 3 * (i + 1) - (0 + 1 + 1 + 1) = 3 * i by omega]; exact this.1
      · rw [List.getElem?_append_right (by simp [vtCells]; omega)]; simp only [vtCells, List.length_cons, List.length_nil]; rw [show 3 * (i + 1) + 1 - (0 + 1 + 1 + 1) = 3 * i + 1 by omega]; exact this.2.1
      · rw [List.getElem?_append_right (by simp [vtCells]; omega)]; simp only [vtCells, List.length_cons, List.length_nil]; rw [show 3 * (i + 1) + 2 - (0 + 1 + 1 + 1) = 3 * i + 2 by omega]; exact this.2.2
end Go.Proofs.YtgebcnnenhgkcaaGreat
/- The numbers under which this dump holds the library's lock's functions and types, and that it holds them. -/
namespace Go.Proofs.YtgebcnnenhgkcaaGreat
abbrev Tryz.muLink : Go.Conc.Locks.MuLink := { lock := 66, unlock := 67, ilock := 104, iunlock := 105, lockSlow := 130, unlockSlow := 133, disable := 126, enable := 128, acquire := 129, relMerge := 131, cas32 := 127, add32 := 132, tMutex := 95, tIMutex := 93, tPMutex := 145, tPIMutex := 160, tPI32 := 162, tUP := 164, tNoCopy := 90, tU32 := 91 }
theorem Tryz.muLib : Go.Conc.Locks.MuLib Tryz.prog Tryz.muLink :=
  ⟨Tryz.func66, Tryz.func67, Tryz.func104, Tryz.func105, Tryz.func126, Tryz.func128, Tryz.func129, Tryz.func131, Tryz.func127, Tryz.func132, Tryz.underlying93, Tryz.runUnderlying93, Tryz.sizeOf93, Tryz.isAgg93, Tryz.zeroValue93, Tryz.underlying95, Tryz.runUnderlying95, Tryz.sizeOf95, Tryz.isAgg95, Tryz.zeroValue95, Tryz.underlying145, Tryz.runUnderlying145, Tryz.sizeOf145, Tryz.isAgg145, Tryz.zeroValue145, Tryz.underlying160, Tryz.runUnderlying160, Tryz.sizeOf160, Tryz.isAgg160, Tryz.zeroValue160, Tryz.underlying162, Tryz.runUnderlying162, Tryz.sizeOf162, Tryz.isAgg162, Tryz.zeroValue162, Tryz.underlying164, Tryz.runUnderlying164, Tryz.sizeOf164, Tryz.isAgg164, Tryz.zeroValue164, Tryz.underlying90, Tryz.runUnderlying90, Tryz.sizeOf90, Tryz.isAgg90, Tryz.zeroValue90, Tryz.underlying21, Tryz.runUnderlying21, Tryz.sizeOf21, Tryz.isAgg21, Tryz.zeroValue21, (by kernel_rfl)⟩
theorem Tryz.muData : Go.Conc.Locks.MuData Tryz.prog Tryz.muLink := ⟨Tryz.underlying91, by kernel_rfl, by kernel_rfl, by kernel_rfl, by kernel_rfl, by kernel_rfl⟩
end Go.Proofs.YtgebcnnenhgkcaaGreat
/- What the program's own lock, unlock and made do, at a nil Court and at one whose mutex is free or held. -/
namespace Go.Proofs.YtgebcnnenhgkcaaGreat
open Go.MuLone

theorem lock_nil (w : World) :
    Calls Tryz.prog 32 #[.pointer none] w fun e w' => e = .returned (.tuple #[]) ∧ w' = w := by
  go_enter Tryz.func32, Tryz.ntmps32
  go_wp2
  go_end0
  exact ⟨rfl, rfl⟩

theorem lock_at (b o : Nat) (w : World) (hc : w.cell? ⟨b, o, none⟩ = some (.int .i32 0)) (hz : w.frozen? ⟨b, o, none⟩ = false) :
    Calls Tryz.prog 32 #[.pointer (some ⟨b, o, none⟩)] w fun e w' => e = .returned (.tuple #[]) ∧ w' = w.setCell ⟨b, o, none⟩ (.int .i32 1) := by
  go_enter Tryz.func32, Tryz.ntmps32
  go_wp2_with (go_at_call 66; refine (lock_free Tryz.muLib ⟨b, o, none⟩ _ hc hz).mono ?_; rintro e w' ⟨rfl, rfl⟩)
  go_end0
  exact ⟨rfl, rfl⟩

theorem unlock_nil (u : FrameMode) (w : World) :
    CallsD Tryz.prog 33 #[.pointer none] u w fun e u' w' => u' = u ∧ (e = .returned (.tuple #[]) ∧ w' = w) := by
  go_enter_d Tryz.func33, Tryz.ntmps33
  go_wp2
  go_end0
  exact ⟨rfl, rfl⟩

theorem unlock_at (b o : Nat) (u : FrameMode) (w : World) (hc : w.cell? ⟨b, o, none⟩ = some (.int .i32 1)) (hz : w.frozen? ⟨b, o, none⟩ = false) :
    CallsD Tryz.prog 33 #[.pointer (some ⟨b, o, none⟩)] u w fun e u' w' => u' = u ∧ (e = .returned (.tuple #[]) ∧ w' = w.setCell ⟨b, o, none⟩ (.int .i32 0)) := by
  go_enter_d Tryz.func33, Tryz.ntmps33
  go_wp2_with (go_at_call 67; refine (unlock_held Tryz.muLib ⟨b, o, none⟩ _ hc hz).mono ?_; rintro e w' ⟨rfl, rfl⟩)
  go_end0
  exact ⟨rfl, rfl⟩

theorem made_nil (w : World) :
    Calls Tryz.prog 34 #[.pointer none] w fun e w' => e = .returned (.bool false) ∧ w' = w := by
  go_enter Tryz.func34, Tryz.ntmps34
  go_wp2
  go_ret
  exact ⟨rfl, rfl⟩

theorem made_at (b o : Nat) (p : Option Addr) (n c : Nat) (w : World) (hc : w.cell? ⟨b, o + 2, none⟩ = some (.slice p n c)) :
    Calls Tryz.prog 34 #[.pointer (some ⟨b, o, none⟩)] w fun e w' => e = .returned (.bool (decide (0 < n))) ∧ w' = w := by
  go_enter Tryz.func34, Tryz.ntmps34
  go_wp2
  go_ret
  exact ⟨by simp, rfl⟩
end Go.Proofs.YtgebcnnenhgkcaaGreat
