/- Plain: what the list of the guilty says of each. -/
import Derived.Test.YtgebcnnenhgkcaaPureC
namespace Go.Proofs.Ytgebcnnenhgkcaa

theorem pairF_some {K : Vt → Vt → Int} : ∀ {l : List Vt} {k : Int} {x y : Vt}, pairF K l = some (k, x, y) → x ∈ l ∧ y ∈ l ∧ K x y = k ∧ K x y ≠ 0 := by
  intro l
  induction l with
  | nil => intro k x y h; cases h
  | cons z r ih =>
    intro k x y h
    unfold pairF at h
    cases hf : r.find? (fun y => decide (K z y ≠ 0)) with
    | some y' =>
      rw [hf] at h
      simp only [Option.some.injEq, Prod.mk.injEq] at h
      obtain ⟨h1, rfl, rfl⟩ := h
      have hp := List.find?_some hf
      exact ⟨List.mem_cons_self, List.mem_cons_of_mem _ (List.mem_of_find?_eq_some hf), h1, by simpa using hp⟩
    | none =>
      rw [hf] at h
      obtain ⟨h1, h2, h3⟩ := ih h
      exact ⟨List.mem_cons_of_mem _ h1, List.mem_cons_of_mem _ h2, h3⟩

/-- What stands behind a guilt. -/
structure GuOf (n : Nat) (ps : List Int) (vs : List Vt) (g : Gu) : Prop where
  v0 : 0 ≤ g.v
  v1 : g.v < n
  a : g.a ∈ vs
  b : g.b ∈ vs
  av : g.a.v = g.v
  bv : g.b.v = g.v
  k : kindI ps g.a g.b ≠ 0

theorem guiltV_some {ps : List Int} {vs : List Vt} {v : Int} {g : Gu} (h : guiltV ps vs v = some g) : g.v = v ∧ g.a ∈ vs ∧ g.b ∈ vs ∧ g.a.v = v ∧ g.b.v = v ∧ kindI ps g.a g.b ≠ 0 := by
  unfold guiltV at h
  cases hp : pairF (kindI ps) (ofV vs v) with
  | none => rw [hp] at h; cases h
  | some p =>
    obtain ⟨k, x, y⟩ := p
    rw [hp] at h
    simp only [Option.map_some, Option.some.injEq] at h
    subst h
    obtain ⟨h1, h2, h3, h4⟩ := pairF_some hp
    unfold ofV at h1 h2
    rw [List.mem_filter] at h1 h2
    exact ⟨rfl, h1.1, h2.1, by simpa using h1.2, by simpa using h2.2, h4⟩

theorem guiltL_of {n : Nat} {ps : List Int} {vs : List Vt} {g : Gu} (h : g ∈ guiltL n ps vs) : GuOf n ps vs g := by
  unfold guiltL at h
  obtain ⟨i, hi, hg⟩ := List.mem_filterMap.1 h
  obtain ⟨h1, h2, h3, h4, h5, h6⟩ := guiltV_some hg
  rw [List.mem_range] at hi
  exact ⟨by omega, by omega, h2, h3, by omega, by omega, h6⟩

theorem guiltL_v (n : Nat) (ps : List Int) (vs : List Vt) : (guiltL n ps vs).map (fun g => g.v) = guiltyV n ps vs := by
  induction n with
  | zero => rfl
  | succ n ih =>
    rw [guiltL_succ, List.map_append, ih]
    unfold guiltyV
    rw [List.range_succ, List.map_append, List.filter_append]
    congr 1
    cases hg : guiltV ps vs n with
    | none => simp [hg]
    | some g =>
      have := (guiltV_some hg).1
      simp [hg, this]

theorem guiltL_up (n : Nat) (ps : List Int) (vs : List Vt) : (guiltL n ps vs).Pairwise (fun a b => a.v < b.v) := by
  induction n with
  | zero => exact List.Pairwise.nil
  | succ n ih =>
    rw [guiltL_succ, List.pairwise_append]
    refine ⟨ih, ?_, fun a ha b hb => ?_⟩
    · cases guiltV ps vs n <;> simp
    · have h1 := (guiltL_of ha).v1
      cases hg : guiltV ps vs n with
      | none => rw [hg] at hb; cases hb
      | some g =>
        rw [hg] at hb
        simp only [Option.toList_some, List.mem_singleton] at hb
        subst hb
        have := (guiltV_some hg).1
        omega

/-- Whoever is told is guilty, and the other way round. -/
theorem told_iff {n : Nat} {ps : List Int} {vs : List Vt} {v : Int} (h0 : 0 ≤ v) (h1 : v < n) : (∃ g ∈ guiltL n ps vs, g.v = v) ↔ ∃ x ∈ vs, ∃ y ∈ vs, x.v = v ∧ y.v = v ∧ kindI ps x y ≠ 0 := by
  constructor
  · rintro ⟨g, hg, rfl⟩
    have := guiltL_of hg
    exact ⟨g.a, this.a, g.b, this.b, this.av, this.bv, this.k⟩
  · rintro ⟨x, hx, y, hy, hxv, hyv, hk⟩
    have hs := guilty_of hx hy hxv hyv hk
    have hm : v ∈ guiltyV n ps vs := mem_guiltyV.2 ⟨⟨h0, h1⟩, hs⟩
    rw [← guiltL_v] at hm
    obtain ⟨g, hg, e⟩ := List.mem_map.1 hm
    exact ⟨g, hg, e⟩
end Go.Proofs.Ytgebcnnenhgkcaa
