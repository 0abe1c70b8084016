/- Plain mathematics of Judge: who is guilty by two proofs; of two right ones that can't both be, a third. Nothing of the program is named here but by the plain functions that its calls answer. -/
import Derived.Test.YtgebcnnenhgkcaaPureD
import Derived.Test.YtgebcnnenhgkcaaPureE
namespace Go.Proofs.Ytgebcnnenhgkcaa

/-- The votes of a voter by the links of a proof. -/
def hasV (l : List Int) (v : Int) : Bool := l.any (fun u => u == v)
theorem hasV_iff {l : List Int} {v : Int} : hasV l v = true ↔ v ∈ l := by unfold hasV; simp
def ofL (L : List Lk) (v : Int) : List Vt := (L.filter (fun l => hasV l.vs v)).map (fun l => ⟨v, l.s, l.t⟩)
/-- The first pair, of one list and then of the other, that nobody may give. -/
def firstF (K : Vt → Vt → Int) : List Vt → List Vt → Option (Int × Vt × Vt)
  | [], _ => none
  | x :: r, o => match o.find? (fun y => decide (K x y ≠ 0)) with
    | some y => some (K x y, x, y)
    | none => firstF K r o
def judgeV (ps : List Int) (one other : List Lk) (v : Int) : Option Gu := (firstF (kindI ps) (ofL one v) (ofL other v)).map fun p => ⟨v, p.1, p.2.1, p.2.2⟩
def judgeL (n : Nat) (ps : List Int) (one other : List Lk) : List Gu := (List.range n).filterMap fun v : Nat => judgeV ps one other (v : Int)
theorem judgeL_succ (n : Nat) (ps : List Int) (one other : List Lk) : judgeL (n + 1) ps one other = judgeL n ps one other ++ (judgeV ps one other n).toList := by
  unfold judgeL; rw [List.range_succ, List.filterMap_append]
  cases h : judgeV ps one other n <;> simp [h]
theorem judgeL_length (n : Nat) (ps : List Int) (one other : List Lk) : (judgeL n ps one other).length ≤ n := by
  unfold judgeL
  exact Nat.le_trans (List.length_filterMap_le _ _) (by simp)

theorem firstF_none {K : Vt → Vt → Int} : ∀ {l o : List Vt}, firstF K l o = none → ∀ x ∈ l, ∀ y ∈ o, K x y = 0 := by
  intro l
  induction l with
  | nil => intro o _ x hx; cases hx
  | cons z r ih =>
    intro o h x hx y hy
    unfold firstF at h
    cases hf : o.find? (fun y => decide (K z y ≠ 0)) with
    | some y' => rw [hf] at h; cases h
    | none =>
      rw [hf] at h
      rcases List.mem_cons.1 hx with ex | hxr
      · have := List.find?_eq_none.1 hf y hy
        rw [ex]; simpa using this
      · exact ih h x hxr y hy
theorem firstF_some {K : Vt → Vt → Int} : ∀ {l o : List Vt} {k : Int} {x y : Vt}, firstF K l o = some (k, x, y) → x ∈ l ∧ y ∈ o ∧ K x y = k ∧ K x y ≠ 0 := by
  intro l
  induction l with
  | nil => intro o k x y h; cases h
  | cons z r ih =>
    intro o k x y h
    unfold firstF at h
    cases hf : o.find? (fun y => decide (K z y ≠ 0)) with
    | some y' =>
      rw [hf] at h
      simp only [Option.some.injEq, Prod.mk.injEq] at h
      obtain ⟨h1, rfl, rfl⟩ := h
      have hp := List.find?_some hf
      exact ⟨List.mem_cons_self, List.mem_of_find?_eq_some hf, h1, by simpa using hp⟩
    | none =>
      rw [hf] at h
      obtain ⟨h1, h2⟩ := ih h
      exact ⟨List.mem_cons_of_mem _ h1, h2⟩
theorem mem_ofL {L : List Lk} {v : Int} {x : Vt} : x ∈ ofL L v ↔ ∃ l ∈ L, v ∈ l.vs ∧ x = ⟨v, l.s, l.t⟩ := by
  unfold ofL
  simp only [List.mem_map, List.mem_filter, hasV_iff]
  constructor
  · rintro ⟨l, ⟨h1, h2⟩, rfl⟩; exact ⟨l, h1, h2, rfl⟩
  · rintro ⟨l, h1, h2, rfl⟩; exact ⟨l, ⟨h1, h2⟩, rfl⟩

/-- What stands behind a guilt by two proofs. -/
structure JuOf (n : Nat) (ps : List Int) (one other : List Lk) (g : Gu) : Prop where
  v0 : 0 ≤ g.v
  v1 : g.v < n
  a : ∃ l ∈ one, g.v ∈ l.vs ∧ g.a = ⟨g.v, l.s, l.t⟩
  b : ∃ l ∈ other, g.v ∈ l.vs ∧ g.b = ⟨g.v, l.s, l.t⟩
  k : kindI ps g.a g.b ≠ 0
theorem judgeV_some {ps : List Int} {one other : List Lk} {v : Int} {g : Gu} (h : judgeV ps one other v = some g) : g.v = v ∧ (∃ l ∈ one, v ∈ l.vs ∧ g.a = ⟨v, l.s, l.t⟩) ∧ (∃ l ∈ other, v ∈ l.vs ∧ g.b = ⟨v, l.s, l.t⟩) ∧ kindI ps g.a g.b ≠ 0 := by
  unfold judgeV at h
  cases hp : firstF (kindI ps) (ofL one v) (ofL other v) with
  | none => rw [hp] at h; cases h
  | some p =>
    obtain ⟨k, x, y⟩ := p
    rw [hp] at h
    simp only [Option.map_some, Option.some.injEq] at h
    subst h
    obtain ⟨h1, h2, h3, h4⟩ := firstF_some hp
    exact ⟨rfl, mem_ofL.1 h1, mem_ofL.1 h2, h4⟩
theorem judgeL_of {n : Nat} {ps : List Int} {one other : List Lk} {g : Gu} (h : g ∈ judgeL n ps one other) : JuOf n ps one other g := by
  unfold judgeL at h
  obtain ⟨i, hi, hg⟩ := List.mem_filterMap.1 h
  obtain ⟨h1, h2, h3, h4⟩ := judgeV_some hg
  rw [List.mem_range] at hi
  exact ⟨by omega, by omega, by rw [h1]; exact h2, by rw [h1]; exact h3, h4⟩
theorem judgeL_up (n : Nat) (ps : List Int) (one other : List Lk) : (judgeL n ps one other).Pairwise (fun a b => a.v < b.v) := by
  induction n with
  | zero => exact List.Pairwise.nil
  | succ n ih =>
    rw [judgeL_succ, List.pairwise_append]
    refine ⟨ih, ?_, fun a ha b hb => ?_⟩
    · cases judgeV ps one other n <;> simp
    · have h1 := (judgeL_of ha).v1
      cases hg : judgeV ps one other n with
      | none => rw [hg] at hb; cases hb
      | some g =>
        rw [hg] at hb
        simp only [Option.toList_some, List.mem_singleton] at hb
        subst hb
        have := (judgeV_some hg).1
        omega
theorem judgeL_has {n : Nat} {ps : List Int} {one other : List Lk} {v : Int} (h0 : 0 ≤ v) (h1 : v < n) {x y : Lk} (hx : x ∈ one) (hy : y ∈ other) (hxv : v ∈ x.vs) (hyv : v ∈ y.vs) (hk : kindI ps ⟨v, x.s, x.t⟩ ⟨v, y.s, y.t⟩ ≠ 0) : v ∈ (judgeL n ps one other).map (fun g => g.v) := by
  have hs : ∃ g, judgeV ps one other v = some g := by
    unfold judgeV
    cases hp : firstF (kindI ps) (ofL one v) (ofL other v) with
    | some p => exact ⟨_, rfl⟩
    | none => exact absurd (firstF_none hp _ (mem_ofL.2 ⟨x, hx, hxv, rfl⟩) _ (mem_ofL.2 ⟨y, hy, hyv, rfl⟩)) hk
  obtain ⟨g, hg⟩ := hs
  rw [List.mem_map]
  refine ⟨g, ?_, (judgeV_some hg).1⟩
  unfold judgeL
  rw [List.mem_filterMap]
  exact ⟨v.toNat, by rw [List.mem_range]; omega, by rw [Int.toNat_of_nonneg h0]; exact hg⟩

/-! Where a right proof passes -/
def atL (L : List Lk) (k : Nat) : Int := endL 0 (L.take k)
structure Chain (ws ps : List Int) (L : List Lk) : Prop where
  s : ∀ (k : Nat) (l : Lk), L[k]? = some l → l.s = atL L k ∧ l.t = atL L (k + 1)
  t : ∀ (k : Nat) (l : Lk), L[k]? = some l → 0 < l.t ∧ l.t.toNat < ps.length ∧ l.s ∈ up ps l.t
  v : ∀ (k : Nat) (l : Lk), L[k]? = some l → (∀ v ∈ l.vs, 0 ≤ v ∧ v < ws.length) ∧ l.vs.Pairwise (fun a b => a < b) ∧ 2 * sumI ws ≤ 3 * wSum ws l.vs

theorem chain_at {ws ps : List Int} {L : List Lk} (h : chainB ws ps 0 L = true) {k : Nat} {l : Lk} (hk : L[k]? = some l) : okL ws ps (atL L k) l = true := by
  by_cases hh : chainB ws ps 0 (L.take (k + 1)) = true
  · rw [chainB_take hk] at hh
    simp only [Bool.and_eq_true] at hh
    exact hh.2
  · have := chainB_prefix (L := L) (k := k + 1) (a := 0) (by simpa using hh)
    rw [this] at h; cases h
theorem chain_of {ws ps : List Int} (hT : Tree ps) {L : List Lk} (h : chainB ws ps 0 L = true) : Chain ws ps L := by
  refine ⟨fun k l hk => ?_, fun k l hk => ?_, fun k l hk => ?_⟩
  · have h1 := chain_at h hk
    unfold okL at h1
    simp only [Bool.and_eq_true, beq_iff_eq] at h1
    exact ⟨h1.1, (endL_take hk).symm⟩
  · have h1 := chain_at h hk
    unfold okL inB at h1
    simp only [Bool.and_eq_true, decide_eq_true_eq] at h1
    have hm := ahead_mem.1 h1.2.1.2
    have h2 := mem_up_lt hT h1.2.1.1.1 (by omega) hm
    exact ⟨by omega, by omega, hm⟩
  · have h1 := chain_at h hk
    unfold okL enB at h1
    simp only [Bool.and_eq_true, riseB_iff, decide_eq_true_eq] at h1
    exact ⟨h1.2.2.1.1, h1.2.2.1.2, h1.2.2.2⟩
theorem atL_zero (L : List Lk) : atL L 0 = 0 := rfl

section
variable {ws ps : List Int} {L : List Lk}
theorem Chain.ok (hT : Tree ps) (h : Chain ws ps L) : ∀ k, k ≤ L.length → 0 ≤ atL L k ∧ (atL L k).toNat < ps.length := by
  intro k hk
  cases k with
  | zero => rw [atL_zero]; exact ⟨by omega, hT.1⟩
  | succ k =>
    obtain ⟨l, hl⟩ : ∃ l, L[k]? = some l := ⟨_, List.getElem?_eq_getElem hk⟩
    rw [← (h.s k l hl).2]
    have := h.t k l hl
    exact ⟨by omega, this.2.1⟩
theorem Chain.step (h : Chain ws ps L) {k : Nat} (hk : k < L.length) : atL L k ∈ up ps (atL L (k + 1)) := by
  obtain ⟨l, hl⟩ : ∃ l, L[k]? = some l := ⟨_, List.getElem?_eq_getElem hk⟩
  rw [← (h.s k l hl).1, ← (h.s k l hl).2]
  exact (h.t k l hl).2.2
theorem Chain.line (hT : Tree ps) (h : Chain ws ps L) : ∀ d k, k + d ≤ L.length → atL L k = atL L (k + d) ∨ atL L k ∈ up ps (atL L (k + d)) := by
  intro d
  induction d with
  | zero => intro k _; exact .inl rfl
  | succ d ih =>
    intro k hk
    have h1 := h.step (k := k + d) (by omega)
    have h2 := h.ok hT (k + (d + 1)) hk
    rcases ih k (by omega) with e | e
    · rw [e]; exact .inr h1
    · exact .inr (up_trans hT _ _ h2.1 h2.2 (Nat.le_refl _) _ h1 _ e)
/-- A first step that passes a height. -/
theorem Chain.passes (H : Int) : ∀ n, n ≤ L.length → ht ps (atL L 0) ≤ H → H < ht ps (atL L n) → ∃ k, k < n ∧ ht ps (atL L k) ≤ H ∧ H < ht ps (atL L (k + 1)) := by
  intro n
  induction n with
  | zero => intro _ h1 h2; omega
  | succ n ih =>
    intro hn h1 h2
    by_cases h3 : ht ps (atL L n) ≤ H
    · exact ⟨n, by omega, h3, h2⟩
    · obtain ⟨k, hk, h4, h5⟩ := ih (by omega) h1 (by omega)
      exact ⟨k, by omega, h4, h5⟩
end

/-- A right proof, opened. -/
structure Rt (ws ps : List Int) (L : List Lk) : Prop where
  pos : 1 ≤ L.length
  le : L.length ≤ 40
  chain : Chain ws ps L
  last : lastS L = atL L (L.length - 1)
  par : ps[(atL L L.length).toNat]?.getD 0 = lastS L
  ht : ht ps (atL L L.length) = ht ps (lastS L) + 1
theorem rt_of {ws ps : List Int} (hT : Tree ps) {L : List Lk} (h : rightB ws ps L = true) : Rt ws ps L := by
  unfold rightB at h
  simp only [Bool.and_eq_true, decide_eq_true_eq, beq_iff_eq] at h
  obtain ⟨⟨h1, h2⟩, h3, h4⟩ := h
  have hC := chain_of hT h3
  obtain ⟨l, hl⟩ : ∃ l, L[L.length - 1]? = some l := ⟨_, List.getElem?_eq_getElem (by omega)⟩
  have hlast : lastS L = l.s := by unfold lastS; rw [hl]; rfl
  have hend : atL L L.length = l.t := by unfold atL; rw [List.take_length]; exact endL_last hl
  have hend' : endL 0 L = l.t := endL_last hl
  rw [hend'] at h4
  refine ⟨h1, h2, hC, by rw [hlast]; exact (hC.s _ l hl).1, by rw [hend]; exact h4, ?_⟩
  rw [hend, ← h4]
  have hlt := hC.t _ l hl
  have e : ht ps l.t = ht ps (ps[l.t.toNat]?.getD 0) + 1 := by unfold ht; rw [up_step hT hlt.1 hlt.2.1]; simp
  exact e

theorem two_proofs {ws ps : List Int} (hT : Tree ps) {A B : List Lk} (hA : Rt ws ps A) (hB : Rt ws ps B) (hle : ht ps (lastS A) ≤ ht ps (lastS B)) (h1 : lastS A ≠ lastS B) (h2 : lastS A ∉ up ps (lastS B)) :
    ∃ x ∈ A, ∃ y ∈ B, ∀ v, kindI ps ⟨v, x.s, x.t⟩ ⟨v, y.s, y.t⟩ ≠ 0 := by
  have pA := hA.pos
  have pB := hB.pos
  have hHa : 0 ≤ ht ps (lastS A) := by unfold ht; omega
  obtain ⟨k, hk, hs, ht'⟩ := Chain.passes (ps := ps) (L := B) (ht ps (lastS A)) B.length (Nat.le_refl _) (by rw [atL_zero]; exact hHa) (by rw [hB.ht]; omega)
  obtain ⟨y, hy⟩ : ∃ y, B[k]? = some y := ⟨_, List.getElem?_eq_getElem hk⟩
  obtain ⟨ys, yt⟩ := hB.chain.s k y hy
  have hsa : y.s ≠ lastS A := by
    rw [ys]
    intro e
    rcases hB.chain.line hT (B.length - 1 - k) k (by omega) with e' | e'
    · rw [show k + (B.length - 1 - k) = B.length - 1 by omega, ← hB.last] at e'
      exact h1 (e.symm.trans e')
    · rw [show k + (B.length - 1 - k) = B.length - 1 by omega, ← hB.last, e] at e'
      exact h2 e'
  obtain ⟨x, hx⟩ : ∃ x, A[A.length - 1]? = some x := ⟨_, List.getElem?_eq_getElem (by omega)⟩
  obtain ⟨xs, xt⟩ := hA.chain.s _ x hx
  have xs' : x.s = lastS A := xs.trans hA.last.symm
  have xt' : ht ps x.t = ht ps (lastS A) + 1 := by rw [xt, show A.length - 1 + 1 = A.length by omega]; exact hA.ht
  rw [← ys] at hs
  rw [← yt] at ht'
  by_cases e1 : ht ps x.t = ht ps y.t
  · refine ⟨x, List.mem_of_getElem? hx, y, List.mem_of_getElem? hy, fun v => ?_⟩
    unfold kindI
    rw [if_neg (by rw [Vt.is_iff]; intro e; injection e with _ e2 _; exact hsa (e2.symm.trans xs')), if_pos e1]; omega
  · by_cases e2 : ht ps y.s = ht ps (lastS A)
    · have okB := hB.chain.ok hT k (by omega)
      have okA := hA.chain.ok hT (A.length - 1) (by omega)
      rw [← ys] at okB
      rw [← hA.last] at okA
      have hk0 : k ≠ 0 := by
        rintro rfl
        rw [atL_zero] at ys
        have : lastS A = 0 := ht_zero_iff hT okA.1 okA.2 (by rw [← e2, ys]; exact Int.le_refl _)
        exact hsa (ys.trans this.symm)
      have hn0 : A.length - 1 ≠ 0 := by
        intro e
        have ea := hA.last
        rw [e, atL_zero] at ea
        have : y.s = 0 := ht_zero_iff hT okB.1 okB.2 (by rw [e2, ea]; exact Int.le_refl _)
        exact hsa (this.trans ea.symm)
      obtain ⟨y', hy'⟩ : ∃ y', B[k - 1]? = some y' := ⟨_, List.getElem?_eq_getElem (by omega)⟩
      obtain ⟨x', hx'⟩ : ∃ x', A[A.length - 1 - 1]? = some x' := ⟨_, List.getElem?_eq_getElem (by omega)⟩
      have ty : y'.t = y.s := by rw [(hB.chain.s _ y' hy').2, show k - 1 + 1 = k by omega, ys]
      have tx : x'.t = lastS A := by rw [(hA.chain.s _ x' hx').2, show A.length - 1 - 1 + 1 = A.length - 1 by omega, hA.last]
      refine ⟨x', List.mem_of_getElem? hx', y', List.mem_of_getElem? hy', fun v => ?_⟩
      unfold kindI
      rw [if_neg (by rw [Vt.is_iff]; intro e; injection e with _ _ e3; exact hsa (by rw [← ty, ← tx]; exact e3.symm)), if_pos (by show ht ps x'.t = ht ps y'.t; rw [tx, ty, e2])]; omega
    · refine ⟨x, List.mem_of_getElem? hx, y, List.mem_of_getElem? hy, fun v => ?_⟩
      unfold kindI
      rw [if_neg (by rw [Vt.is_iff]; intro e; injection e with _ e2 _; exact hsa (e2.symm.trans xs')), if_neg e1, if_pos (.inr ⟨by show ht ps y.s < ht ps x.s; rw [xs']; omega, by show ht ps x.t < ht ps y.t; omega⟩)]; omega

/-- **Of two right proofs whose blocks do not agree a third of all weight is guilty.** -/
theorem judge_third {ws ps : List Int} (hT : Tree ps) (hW : OkWs ws) {one other : List Lk} (h1 : rightB ws ps one = true) (h2 : rightB ws ps other = true) (n1 : lastS one ≠ lastS other) (n2 : lastS one ∉ up ps (lastS other)) (n3 : lastS other ∉ up ps (lastS one)) : sumI ws ≤ 3 * wSum ws ((judgeL ws.length ps one other).map (fun g => g.v)) := by
  have hA := rt_of hT h1
  have hB := rt_of hT h2
  have key : ∃ x ∈ one, ∃ y ∈ other, ∀ v, kindI ps ⟨v, x.s, x.t⟩ ⟨v, y.s, y.t⟩ ≠ 0 := by
    by_cases hle : ht ps (lastS one) ≤ ht ps (lastS other)
    · exact two_proofs hT hA hB hle n1 n2
    · obtain ⟨x, hx, y, hy, hk⟩ := two_proofs hT hB hA (by omega) (Ne.symm n1) n3
      exact ⟨y, hy, x, hx, fun v => by rw [kindI_symm]; exact hk v⟩
  obtain ⟨x, hx, y, hy, hk⟩ := key
  obtain ⟨i, hi⟩ := List.mem_iff_getElem?.1 hx
  obtain ⟨j, hj⟩ := List.mem_iff_getElem?.1 hy
  have vx := hA.chain.v i x hi
  have vy := hB.chain.v j y hj
  have up := judgeL_up ws.length ps one other
  refine third_shared hW (vx.2.1.imp (fun h => by omega)) (vy.2.1.imp (fun h => by omega)) (List.pairwise_map.2 (up.imp (fun h => by omega))) vx.1 vy.1 (fun v hv => ?_) vx.2.2 vy.2.2 (fun v ha hb => judgeL_has (vx.1 v ha).1 (vx.1 v ha).2 hx hy ha hb (hk v))
  obtain ⟨g, hg, rfl⟩ := List.mem_map.1 hv
  have := judgeL_of hg
  exact ⟨this.v0, this.v1⟩
end Go.Proofs.Ytgebcnnenhgkcaa
