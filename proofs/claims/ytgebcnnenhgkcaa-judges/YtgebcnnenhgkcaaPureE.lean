/- Plain mathematics of proofs: the fewest links by which a block is just, and which links are a right proof. Nothing of the program is named here. -/
import Derived.Test.YtgebcnnenhgkcaaPureB
namespace Go.Proofs.Ytgebcnnenhgkcaa

/-! The way up that takes the links by which a block is just -/
def wStep (lk : Int → Int → Bool) (D : Int → Int) (q : Int × List (Int × Int)) (s : Int) : Int × List (Int × Int) :=
  if (decide (D s = D q.1 - 1) && lk s q.1) = true then (s, q.2 ++ [(s, q.1)]) else q
def walkS (lk : Int → Int → Bool) (D : Int → Int) (b : Int) (l : List Int) : Int × List (Int × Int) := l.foldl (wStep lk D) (b, [])
theorem walkS_nil (lk : Int → Int → Bool) (D : Int → Int) (b : Int) : walkS lk D b [] = (b, []) := rfl
theorem walkS_snoc (lk : Int → Int → Bool) (D : Int → Int) (b : Int) (l : List Int) (s : Int) : walkS lk D b (l ++ [s]) = wStep lk D (walkS lk D b l) s := by
  unfold walkS; rw [List.foldl_append]; rfl

/-- A way from a block up to the root, the block's link first. -/
def IsWay (lk : Int → Int → Bool) (ps : List Int) : List (Int × Int) → Int → Prop
  | [], b => b = 0
  | (s, t) :: r, b => t = b ∧ 0 < b ∧ b.toNat < ps.length ∧ s ∈ up ps b ∧ lk s b = true ∧ IsWay lk ps r s
/-- A way from one block to another, the first link first. -/
def IsRun (lk : Int → Int → Bool) (ps : List Int) : Int → List (Int × Int) → Int → Prop
  | a, [], b => a = b
  | a, (s, t) :: r, b => s = a ∧ 0 < t ∧ t.toNat < ps.length ∧ s ∈ up ps t ∧ lk s t = true ∧ IsRun lk ps t r b

theorem IsRun.snoc {lk : Int → Int → Bool} {ps : List Int} : ∀ {l : List (Int × Int)} {a b c : Int}, IsRun lk ps a l b → 0 < c → c.toNat < ps.length → b ∈ up ps c → lk b c = true → IsRun lk ps a (l ++ [(b, c)]) c := by
  intro l
  induction l with
  | nil => intro a b c h h1 h2 h3 h4; cases h; exact ⟨rfl, h1, h2, h3, h4, rfl⟩
  | cons x r ih =>
    obtain ⟨s, t⟩ := x
    rintro a b c ⟨h0, h1, h2, h3, h4, h5⟩ k1 k2 k3 k4
    exact ⟨h0, h1, h2, h3, h4, ih h5 k1 k2 k3 k4⟩
theorem IsWay.run {lk : Int → Int → Bool} {ps : List Int} : ∀ {l : List (Int × Int)} {b : Int}, IsWay lk ps l b → IsRun lk ps 0 l.reverse b := by
  intro l
  induction l with
  | nil => intro b h; exact h.symm
  | cons x r ih =>
    obtain ⟨s, t⟩ := x
    rintro b ⟨rfl, h1, h2, h3, h4, h5⟩
    rw [List.reverse_cons]
    exact (ih h5).snoc h1 h2 h3 h4

theorem up_split {ps : List Int} (hT : Tree ps) : ∀ (n : Nat) (b : Int), 0 ≤ b → b.toNat < ps.length → b.toNat ≤ n → ∀ (l1 : List Int) (s : Int) (l2 : List Int), up ps b = l1 ++ s :: l2 → l2 = up ps s := by
  intro n
  induction n with
  | zero =>
    intro b h0 hl hn l1 s l2 h
    have : b = 0 := by omega
    subst this; simp [up_zero] at h
  | succ n ih =>
    intro b h0 hl hn l1 s l2 h
    by_cases hb : b = 0
    · subst hb; simp [up_zero] at h
    · have hp := hT.2.2.2 b.toNat (by omega) hl
      rw [up_step hT (by omega) hl] at h
      cases l1 with
      | nil =>
        simp only [List.nil_append, List.cons.injEq] at h
        rw [← h.2, h.1]
      | cons y r =>
        simp only [List.cons_append, List.cons.injEq] at h
        exact ih _ hp.1 (by omega) (by omega) r s l2 h.2

theorem first_split {f : Int → Bool} : ∀ {l : List Int}, (∃ s ∈ l, f s = true) → ∃ l1 s l2, l = l1 ++ s :: l2 ∧ f s = true ∧ ∀ x ∈ l1, f x = false := by
  intro l
  induction l with
  | nil => rintro ⟨s, hs, _⟩; cases hs
  | cons x r ih =>
    intro h
    cases hx : f x with
    | true => exact ⟨[], x, r, rfl, hx, fun y hy => by cases hy⟩
    | false =>
      obtain ⟨s, hs, hf⟩ := h
      rcases List.mem_cons.1 hs with rfl | hs
      · rw [hx] at hf; cases hf
      · obtain ⟨l1, s', l2, h1, h2, h3⟩ := ih ⟨s, hs, hf⟩
        exact ⟨x :: l1, s', l2, by rw [h1]; rfl, h2, fun y hy => (List.mem_cons.1 hy).elim (fun e => e ▸ hx) (h3 y)⟩

theorem foldl_same {lk : Int → Int → Bool} {D : Int → Int} {q : Int × List (Int × Int)} : ∀ {l : List Int}, (∀ x ∈ l, (decide (D x = D q.1 - 1) && lk x q.1) = false) → l.foldl (wStep lk D) q = q := by
  intro l
  induction l with
  | nil => intro _; rfl
  | cons x r ih =>
    intro h
    rw [List.foldl_cons]
    have : wStep lk D q x = q := by unfold wStep; rw [if_neg (by rw [h x (List.mem_cons_self ..)]; simp)]
    rw [this]
    exact ih (fun y hy => h y (List.mem_cons_of_mem _ hy))

theorem walk_is {lk : Int → Int → Bool} {ps : List Int} {D : Int → Int} (hT : Tree ps) (hD : IsSteps lk ps D) : ∀ (n : Nat) (b : Int), 0 ≤ b → b.toNat < ps.length → b.toNat ≤ n → D b < 40 → ∀ acc, ∃ l, (up ps b).foldl (wStep lk D) (b, acc) = (0, acc ++ l) ∧ IsWay lk ps l b ∧ (l.length : Int) = D b := by
  intro n
  induction n with
  | zero =>
    intro b h0 hl hn hd acc
    have : b = 0 := by omega
    subst this
    exact ⟨[], by simp [up_zero], rfl, by rw [hD.root]; rfl⟩
  | succ n ih =>
    intro b h0 hl hn hd acc
    by_cases hb : b = 0
    · subst hb
      exact ⟨[], by simp [up_zero], rfl, by rw [hD.root]; rfl⟩
    · obtain ⟨s, hs, hk, he⟩ := hD.by' b (by omega) hl hd
      obtain ⟨l1, s0, l2, h1, h2, h3⟩ := first_split (f := fun x => decide (D x = D b - 1) && lk x b) ⟨s, hs, by simp [hk]; omega⟩
      have h4 := up_split hT b.toNat b h0 hl (Nat.le_refl _) l1 s0 l2 h1
      have hm : s0 ∈ up ps b := by rw [h1]; simp
      have hlt := mem_up_lt hT h0 hl hm
      have h2' : D s0 = D b - 1 ∧ lk s0 b = true := by simpa using h2
      obtain ⟨l, e1, e2, e3⟩ := ih s0 hlt.1 (by omega) (by omega) (by omega) (acc ++ [(s0, b)])
      refine ⟨(s0, b) :: l, ?_, ⟨rfl, by omega, hl, hm, h2'.2, e2⟩, ?_⟩
      · rw [h1, List.foldl_append, foldl_same (q := (b, acc)) h3, List.foldl_cons]
        have : wStep lk D (b, acc) s0 = (s0, acc ++ [(s0, b)]) := by unfold wStep; rw [if_pos h2]
        rw [this, h4, e1]
        simp
      · rw [List.length_cons]; omega

/-- The walk over all those ahead. -/
theorem walkS_is {lk : Int → Int → Bool} {ps : List Int} {D : Int → Int} (hT : Tree ps) (hD : IsSteps lk ps D) {b : Int} (h0 : 0 ≤ b) (hl : b.toNat < ps.length) (hd : D b < 40) : IsRun lk ps 0 (walkS lk D b (up ps b)).2.reverse b ∧ ((walkS lk D b (up ps b)).2.length : Int) = D b := by
  obtain ⟨l, h1, h2, h3⟩ := walk_is hT hD b.toNat b h0 hl (Nat.le_refl _) hd []
  unfold walkS
  rw [h1]
  exact ⟨by simpa using h2.run, by simpa using h3⟩

/-! Right proofs -/
/-- A link, and by whom. -/
structure Lk where
  s : Int
  t : Int
  vs : List Int

/-- Are voters there, and do they rise from a least one on? -/
def riseB (n : Nat) : Int → List Int → Bool
  | _, [] => true
  | m, v :: r => (decide (m ≤ v) && decide (v < n)) && riseB n (v + 1) r
def enB (ws l : List Int) : Bool := decide (2 * sumI ws ≤ 3 * wSum ws l)
def inB (ps : List Int) (t : Int) : Bool := decide (0 ≤ t) && decide (t < ps.length)
/-- One link of a proof, from where the one ahead has come. -/
def okL (ws ps : List Int) (a : Int) (l : Lk) : Bool := (l.s == a) && ((inB ps l.t && ahead ps l.s l.t) && (riseB ws.length 0 l.vs && enB ws l.vs))
def chainB (ws ps : List Int) : Int → List Lk → Bool
  | _, [] => true
  | a, l :: r => okL ws ps a l && chainB ws ps l.t r
def endL : Int → List Lk → Int
  | a, [] => a
  | _, l :: r => endL l.t r
def lastS (L : List Lk) : Int := (L[L.length - 1]?.map (fun l => l.s)).getD 0
def rightB (ws ps : List Int) (L : List Lk) : Bool := (decide (1 ≤ L.length) && decide (L.length ≤ 40)) && (chainB ws ps 0 L && (ps[(endL 0 L).toNat]?.getD 0 == lastS L))

theorem chainB_append {ws ps : List Int} : ∀ {L : List Lk} {M : List Lk} {a : Int}, chainB ws ps a (L ++ M) = (chainB ws ps a L && chainB ws ps (endL a L) M) := by
  intro L
  induction L with
  | nil => intro M a; simp [chainB, endL]
  | cons l r ih => intro M a; simp only [List.cons_append, chainB, endL, ih, Bool.and_assoc]
theorem endL_append {L M : List Lk} {a : Int} : endL a (L ++ M) = endL (endL a L) M := by
  induction L generalizing a with
  | nil => rfl
  | cons l r ih => simp only [List.cons_append, endL]; exact ih
theorem endL_last : ∀ {L : List Lk} {a : Int} {l : Lk}, L[L.length - 1]? = some l → endL a L = l.t := by
  intro L
  induction L with
  | nil => intro a l h; simp at h
  | cons x r ih =>
    intro a l h
    simp only [endL]
    cases r with
    | nil => simp at h; subst h; rfl
    | cons y q =>
      refine ih ?_
      simpa using h
theorem chainB_take {ws ps : List Int} {L : List Lk} {k : Nat} {l : Lk} {a : Int} (h : L[k]? = some l) : chainB ws ps a (L.take (k + 1)) = (chainB ws ps a (L.take k) && okL ws ps (endL a (L.take k)) l) := by
  rw [List.take_add_one, h]
  simp only [Option.toList_some]
  rw [chainB_append]
  simp [chainB]
theorem endL_take {L : List Lk} {k : Nat} {l : Lk} {a : Int} (h : L[k]? = some l) : endL a (L.take (k + 1)) = l.t := by
  rw [List.take_add_one, h]
  simp only [Option.toList_some]
  rw [endL_append]; rfl
theorem chainB_prefix {ws ps : List Int} {L : List Lk} {k : Nat} {a : Int} (h : chainB ws ps a (L.take k) = false) : chainB ws ps a L = false := by
  rw [← List.take_append_drop k L, chainB_append, h, Bool.false_and]

theorem riseB_append {n : Nat} : ∀ {L M : List Int} {m : Int}, riseB n m (L ++ M) = (riseB n m L && riseB n (if L = [] then m else L.getLastD 0 + 1) M) := by
  intro L
  induction L with
  | nil => intro M m; simp [riseB]
  | cons x r ih =>
    intro M m
    simp only [List.cons_append, riseB, ih]
    cases r with
    | nil => simp [riseB]
    | cons y q => simp [Bool.and_assoc]
theorem riseB_iff {n : Nat} : ∀ {L : List Int} {m : Int}, riseB n m L = true ↔ (∀ v ∈ L, m ≤ v ∧ v < n) ∧ L.Pairwise (fun a b => a < b) := by
  intro L
  induction L with
  | nil => intro m; simp [riseB]
  | cons x r ih =>
    intro m
    simp only [riseB, Bool.and_eq_true, decide_eq_true_eq, ih, List.pairwise_cons, List.mem_cons]
    constructor
    · rintro ⟨⟨h1, h2⟩, h3, h4⟩
      exact ⟨fun v hv => hv.elim (fun e => e ▸ ⟨h1, h2⟩) (fun h => ⟨by have := (h3 v h).1; omega, (h3 v h).2⟩), fun b hb => by have := (h3 b hb).1; omega, h4⟩
    · rintro ⟨h1, h2, h3⟩
      exact ⟨h1 x (.inl rfl), fun v hv => ⟨by have := h2 v hv; omega, (h1 v (.inr hv)).2⟩, h3⟩
end Go.Proofs.Ytgebcnnenhgkcaa
