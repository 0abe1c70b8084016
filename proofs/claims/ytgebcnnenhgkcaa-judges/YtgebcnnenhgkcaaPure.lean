/- Plain mathematics of the tree and of the votes: nothing of the program is named here. -/
import Derived.Below
namespace Go.Proofs.Ytgebcnnenhgkcaa

/-- Those ahead of a block: its parent first, the root last. -/
def upF (ps : List Int) : Nat → Int → List Int
  | 0, _ => []
  | f + 1, b => if b = 0 then [] else ps[b.toNat]?.getD 0 :: upF ps f (ps[b.toNat]?.getD 0)

/-- Parents: the first is 0, each other one is not below 0 and below its place. -/
def Tree (ps : List Int) : Prop := 0 < ps.length ∧ ps.length ≤ 40 ∧ ps[0]?.getD 0 = 0 ∧ ∀ i : Nat, 0 < i → i < ps.length → 0 ≤ ps[i]?.getD 0 ∧ ps[i]?.getD 0 < (i : Int)

def up (ps : List Int) (b : Int) : List Int := upF ps b.toNat b

theorem upF_fuel {ps : List Int} (h : Tree ps) : ∀ (f g : Nat) (b : Int), 0 ≤ b → b.toNat < ps.length → b.toNat ≤ f → b.toNat ≤ g → upF ps f b = upF ps g b := by
  intro f
  induction f with
  | zero =>
    intro g b h0 hl hf hg
    have : b = 0 := by omega
    subst this
    cases g <;> simp [upF]
  | succ f ih =>
    intro g b h0 hl hf hg
    by_cases hb : b = 0
    · subst hb
      cases g <;> simp [upF]
    · cases g with
      | zero => omega
      | succ g =>
        have hp := h.2.2.2 b.toNat (by omega) hl
        simp only [upF, if_neg hb]
        rw [ih g _ hp.1 (by omega) (by omega) (by omega)]

theorem up_zero (ps : List Int) : up ps 0 = [] := rfl
theorem up_step {ps : List Int} (h : Tree ps) {b : Int} (h0 : 0 < b) (hl : b.toNat < ps.length) : up ps b = ps[b.toNat]?.getD 0 :: up ps (ps[b.toNat]?.getD 0) := by
  have hp := h.2.2.2 b.toNat (by omega) hl
  obtain ⟨f, hf⟩ : ∃ f, b.toNat = f + 1 := ⟨b.toNat - 1, by omega⟩
  have : up ps b = upF ps (f + 1) b := by unfold up; rw [hf]
  rw [this]
  simp only [upF]
  rw [if_neg (by omega)]
  congr 1
  exact upF_fuel h _ _ _ hp.1 (by omega) (by omega) (Nat.le_refl _)

/-- A block is ahead of another one. -/
def ahead (ps : List Int) (a b : Int) : Bool := (up ps b).any (fun x => x == a)

theorem ahead_zero (ps : List Int) (a : Int) : ahead ps a 0 = false := rfl
theorem ahead_step {ps : List Int} (h : Tree ps) {a b : Int} (h0 : 0 < b) (hl : b.toNat < ps.length) : ahead ps a b = (ps[b.toNat]?.getD 0 == a || ahead ps a (ps[b.toNat]?.getD 0)) := by
  unfold ahead; rw [up_step h h0 hl]; rfl

/-- A vote: its voter, source and target. -/
structure Vt where
  v : Int
  s : Int
  t : Int

def Vt.is (x y : Vt) : Bool := x.v == y.v && (x.s == y.s && x.t == y.t)
theorem Vt.is_iff {x y : Vt} : x.is y = true ↔ x = y := by
  cases x; cases y; simp [Vt.is]
theorem Vt.is_false {x y : Vt} : x.is y = false ↔ x ≠ y := by
  rw [← Bool.not_eq_true, Vt.is_iff]

abbrev I64 (x : Int) : Value := .int .i64 x
abbrev Vt.val (x : Vt) : Value := .agg #[I64 x.v, I64 x.s, I64 x.t]
def vtCells (x : Vt) : List Value := [I64 x.v, I64 x.s, I64 x.t]
def vtRow (vs : List Vt) : List Value := vs.flatMap vtCells

theorem vtRow_length (vs : List Vt) : (vtRow vs).length = vs.length * 3 := by
  induction vs with
  | nil => rfl
  | cons x r ih => simp [vtRow, vtCells] at *; omega
theorem vtRow_append (a b : List Vt) : vtRow (a ++ b) = vtRow a ++ vtRow b := by simp [vtRow]
theorem vtRow_at (vs : List Vt) (i : Nat) (x : Vt) (h : vs[i]? = some x) : (vtRow vs)[3 * i]? = some (I64 x.v) ∧ (vtRow vs)[3 * i + 1]? = some (I64 x.s) ∧ (vtRow vs)[3 * i + 2]? = some (I64 x.t) := by
  induction vs generalizing i with
  | nil => simp at h
  | cons y r ih =>
    cases i with
    | zero => simp at h; subst h; simp [vtRow, vtCells]
    | succ i =>
      have := ih i (by simpa using h)
      have e : vtRow (y :: r) = vtCells y ++ vtRow r := by simp [vtRow]
      rw [e]
      refine ⟨?_, ?_, ?_⟩
      · rw [List.getElem?_append_right (by simp [vtCells]; omega)]; simp only [vtCells, List.length_cons, List.length_nil]; rw [show 3 * (i + 1) - (0 + 1 + 1 + 1) = 3 * i by omega]; exact this.1
      · rw [List.getElem?_append_right (by simp [vtCells]; omega)]; simp only [vtCells, List.length_cons, List.length_nil]; rw [show 3 * (i + 1) + 1 - (0 + 1 + 1 + 1) = 3 * i + 1 by omega]; exact this.2.1
      · rw [List.getElem?_append_right (by simp [vtCells]; omega)]; simp only [vtCells, List.length_cons, List.length_nil]; rw [show 3 * (i + 1) + 2 - (0 + 1 + 1 + 1) = 3 * i + 2 by omega]; exact this.2.2
end Go.Proofs.Ytgebcnnenhgkcaa
