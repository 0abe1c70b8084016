/- Plain mathematics: if two blocks that do not agree are final, a third of all weight is guilty. Nothing of the program is named here but by the plain functions that its calls answer. -/
import Derived.Test.YtgebcnnenhgkcaaFinalA
import Derived.Test.YtgebcnnenhgkcaaHeightA
namespace Go.Proofs.Ytgebcnnenhgkcaa

/-! Sums over voters -/
def isum (f : Nat → Int) : Nat → Int
  | 0 => 0
  | n + 1 => isum f n + f n
theorem isum_congr {f g : Nat → Int} {n : Nat} (h : ∀ i, i < n → f i = g i) : isum f n = isum g n := by
  induction n with
  | zero => rfl
  | succ n ih => simp only [isum]; rw [ih (fun i hi => h i (by omega)), h n (by omega)]
theorem isum_le {f g : Nat → Int} {n : Nat} (h : ∀ i, i < n → f i ≤ g i) : isum f n ≤ isum g n := by
  induction n with
  | zero => exact Int.le_refl _
  | succ n ih => simp only [isum]; have := ih (fun i hi => h i (by omega)); have := h n (by omega); omega
theorem isum_add (f g : Nat → Int) (n : Nat) : isum (fun i => f i + g i) n = isum f n + isum g n := by
  induction n with
  | zero => rfl
  | succ n ih => simp only [isum, ih]; omega
theorem isum_sumI (ws : List Int) : ∀ n, n ≤ ws.length → isum (fun i => wAt ws i) n = sumI (ws.take n) := by
  intro n
  induction n with
  | zero => intro _; simp [isum, sumI_nil]
  | succ n ih =>
    intro h
    have hlt : n < ws.length := by omega
    simp only [isum]
    rw [ih (by omega), sumI_take ws n (ws[n]) (List.getElem?_eq_getElem hlt)]
    congr 1
    unfold wAt
    simp [List.getElem?_eq_getElem hlt]
theorem isum_total (ws : List Int) : isum (fun i => wAt ws i) ws.length = sumI ws := by
  rw [isum_sumI ws _ (Nat.le_refl _), List.take_length]
theorem isum_single (f : Nat → Int) (k : Nat) (x : Int) : ∀ n, isum (fun i => (if i = k then x else 0) + f i) n = isum f n + (if k < n then x else 0) := by
  intro n
  induction n with
  | zero => simp [isum]
  | succ n ih =>
    simp only [isum, ih]
    by_cases h : k < n
    · have e1 : ¬ n = k := by omega
      have e2 : k < n + 1 := by omega
      simp only [if_pos h, if_neg e1, if_pos e2]; omega
    · by_cases h2 : n = k
      · have e2 : k < n + 1 := by omega
        simp only [if_neg h, if_pos h2, if_pos e2]; omega
      · have e2 : ¬ k < n + 1 := by omega
        simp only [if_neg h, if_neg h2, if_neg e2]; omega
/-- The weight of a list without repetition, by voters. -/
theorem wSum_isum (ws : List Int) (n : Nat) : ∀ l : List Int, l.Nodup → (∀ v ∈ l, 0 ≤ v ∧ v < n) → wSum ws l = isum (fun i => if (i : Int) ∈ l then wAt ws i else 0) n := by
  intro l
  induction l with
  | nil =>
    intro _ _
    have : isum (fun i => if (i : Int) ∈ ([] : List Int) then wAt ws i else 0) n = isum (fun _ => 0) n := isum_congr (fun i _ => by simp)
    rw [this]
    have : ∀ n, isum (fun _ => 0) n = 0 := fun n => by induction n with | zero => rfl | succ n ih => simp [isum, ih]
    rw [this]; rfl
  | cons x r ih =>
    intro hn hb
    rw [List.nodup_cons] at hn
    have hx := hb x (List.mem_cons_self ..)
    have h1 := ih hn.2 (fun v hv => hb v (List.mem_cons_of_mem _ hv))
    have e : wSum ws (x :: r) = wAt ws x + wSum ws r := by simp [wSum, sumI_cons]
    rw [e, h1]
    have h2 := isum_single (fun i => if (i : Int) ∈ r then wAt ws i else 0) x.toNat (wAt ws x) n
    rw [if_pos (by omega)] at h2
    have h3 : isum (fun i => if (i : Int) ∈ x :: r then wAt ws i else 0) n = isum (fun i => (if i = x.toNat then wAt ws x else 0) + (if (i : Int) ∈ r then wAt ws i else 0)) n := isum_congr (fun i hi => by
      by_cases e1 : i = x.toNat
      · have e2 : (i : Int) = x := by omega
        have e3 : ¬ (i : Int) ∈ r := by rw [e2]; exact hn.1
        rw [if_pos e1, if_neg e3, if_pos (by rw [e2]; exact List.mem_cons_self ..), e2]; omega
      · have e2 : (i : Int) ≠ x := by omega
        rw [if_neg e1]
        by_cases e3 : (i : Int) ∈ r
        · rw [if_pos e3, if_pos (List.mem_cons_of_mem _ e3)]; omega
        · rw [if_neg e3, if_neg (by simp [e2, e3])]; omega)
    rw [h3, h2]; omega

theorem wAt_pos {ws : List Int} (h : OkWs ws) {i : Nat} (hi : i < ws.length) : 1 ≤ wAt ws i := (h.wAt (v := (i : Int)) (by simpa using hi)).1
/-- Two sets that are each two thirds share a third. -/
theorem third_shared {ws : List Int} (hW : OkWs ws) {A B C : List Int} (hA : A.Nodup) (hB : B.Nodup) (hC : C.Nodup) (bA : ∀ v ∈ A, 0 ≤ v ∧ v < ws.length) (bB : ∀ v ∈ B, 0 ≤ v ∧ v < ws.length) (bC : ∀ v ∈ C, 0 ≤ v ∧ v < ws.length)
    (eA : 2 * sumI ws ≤ 3 * wSum ws A) (eB : 2 * sumI ws ≤ 3 * wSum ws B) (hAB : ∀ v, v ∈ A → v ∈ B → v ∈ C) : sumI ws ≤ 3 * wSum ws C := by
  have h1 := wSum_isum ws ws.length A hA bA
  have h2 := wSum_isum ws ws.length B hB bB
  have h3 := wSum_isum ws ws.length C hC bC
  have h4 : isum (fun i => (if (i : Int) ∈ A then wAt ws i else 0) + (if (i : Int) ∈ B then wAt ws i else 0)) ws.length ≤ isum (fun i => wAt ws i + (if (i : Int) ∈ C then wAt ws i else 0)) ws.length := isum_le (fun i hi => by
    have hp := wAt_pos hW hi
    by_cases e1 : (i : Int) ∈ A
    · by_cases e2 : (i : Int) ∈ B
      · rw [if_pos e1, if_pos e2, if_pos (hAB _ e1 e2)]; omega
      · rw [if_pos e1, if_neg e2]; split <;> omega
    · rw [if_neg e1]
      by_cases e2 : (i : Int) ∈ B
      · rw [if_pos e2]; split <;> omega
      · rw [if_neg e2]; split <;> omega)
  rw [isum_add, isum_add, isum_total, ← h1, ← h2, ← h3] at h4
  omega

/-! The tree -/
theorem up_trans {ps : List Int} (hT : Tree ps) : ∀ (n : Nat) (b : Int), 0 ≤ b → b.toNat < ps.length → b.toNat ≤ n → ∀ x ∈ up ps b, ∀ y ∈ up ps x, y ∈ up ps b := by
  intro n
  induction n with
  | zero =>
    intro b h0 hl hn x hx
    have : b = 0 := by omega
    subst this; simp [up_zero] at hx
  | succ n ih =>
    intro b h0 hl hn x hx y hy
    by_cases hb : b = 0
    · subst hb; simp [up_zero] at hx
    · have hp := hT.2.2.2 b.toNat (by omega) hl
      rw [up_step hT (by omega) hl, List.mem_cons] at hx ⊢
      rcases hx with rfl | hx
      · exact .inr hy
      · exact .inr (ih _ hp.1 (by omega) (by omega) x hx y hy)
theorem ht_up {ps : List Int} (hT : Tree ps) : ∀ (n : Nat) (b : Int), 0 ≤ b → b.toNat < ps.length → b.toNat ≤ n → ∀ x ∈ up ps b, ht ps x < ht ps b := by
  intro n
  induction n with
  | zero =>
    intro b h0 hl hn x hx
    have : b = 0 := by omega
    subst this; simp [up_zero] at hx
  | succ n ih =>
    intro b h0 hl hn x hx
    by_cases hb : b = 0
    · subst hb; simp [up_zero] at hx
    · have hp := hT.2.2.2 b.toNat (by omega) hl
      have e : ht ps b = ht ps (ps[b.toNat]?.getD 0) + 1 := by unfold ht; rw [up_step hT (by omega) hl]; simp
      rw [up_step hT (by omega) hl, List.mem_cons] at hx
      rcases hx with rfl | hx
      · omega
      · have := ih _ hp.1 (by omega) (by omega) x hx; omega
theorem ht_zero_iff {ps : List Int} (hT : Tree ps) {b : Int} (h0 : 0 ≤ b) (hl : b.toNat < ps.length) (h : ht ps b ≤ 0) : b = 0 := by
  by_cases hb : b = 0
  · exact hb
  · have e : ht ps b = ht ps (ps[b.toNat]?.getD 0) + 1 := by unfold ht; rw [up_step hT (by omega) hl]; simp
    have : 0 ≤ ht ps (ps[b.toNat]?.getD 0) := by unfold ht; omega
    omega

/-! What is just, by links -/
theorem just_by {ws ps : List Int} {vs : List Vt} (hT : Tree ps) {b : Int} (h0 : 0 < b) (hl : b.toNat < ps.length) (h : isJust ws ps vs b = true) : ∃ s ∈ up ps b, linkB ws vs s b = true ∧ isJust ws ps vs s = true := by
  have hD : IsSteps (linkB ws vs) ps (stAt (stepsC ws ps vs)) := stepsL_is (linkB ws vs) hT
  unfold isJust at h
  have hne : stAt (stepsC ws ps vs) b ≠ 40 := by simpa using h
  have hle := hD.le b (by omega) hl
  obtain ⟨s, hs, hlk, he⟩ := hD.by' b h0 hl (by omega)
  exact ⟨s, hs, hlk, by unfold isJust; simp; omega⟩

structure Fin' (ws ps : List Int) (vs : List Vt) (a : Int) (c : Int) : Prop where
  a0 : 0 ≤ a
  a1 : a.toNat < ps.length
  c0 : 0 < c
  c1 : c.toNat < ps.length
  par : ps[c.toNat]?.getD 0 = a
  lk : linkB ws vs a c = true
  just : isJust ws ps vs a = true
theorem final_link {ws ps : List Int} {vs : List Vt} {a : Int} (h : a ∈ finalL ws ps vs) : ∃ c, Fin' ws ps vs a c := by
  unfold finalL at h
  rw [List.mem_filter] at h
  obtain ⟨h1, h2⟩ := h
  obtain ⟨h3, h4, h5⟩ := mem_justL h1
  cases hc : childF ws ps vs a with
  | none => rw [hc] at h2; cases h2
  | some c =>
    unfold childF childN at hc
    have e1 := List.find?_some hc
    have e2 := List.mem_of_find?_eq_some hc
    simp only [List.mem_map, List.mem_range] at e2
    obtain ⟨i, hi, rfl⟩ := e2
    unfold isChild at e1
    simp only [Bool.and_eq_true, bne_iff_ne, beq_iff_eq] at e1
    exact ⟨i, h3, h4, by have := e1.1.1; omega, by omega, e1.1.2, e1.2, h5⟩

/-- Going down the links that make b just there is one that passes a's height. -/
theorem passes {ws ps : List Int} {vs : List Vt} (hT : Tree ps) (H : Int) (hH : 0 ≤ H) (b : Int) : ∀ (n : Nat) (x y : Int), 0 ≤ x → x.toNat < ps.length → x.toNat ≤ n → (x = b ∨ x ∈ up ps b) → isJust ws ps vs x = true → linkB ws vs x y = true → H < ht ps y → 0 ≤ b → b.toNat < ps.length →
    ∃ s t, (s = b ∨ s ∈ up ps b) ∧ 0 ≤ s ∧ s.toNat < ps.length ∧ isJust ws ps vs s = true ∧ linkB ws vs s t = true ∧ ht ps s ≤ H ∧ H < ht ps t := by
  intro n
  induction n with
  | zero =>
    intro x y h0 hl hn hline hj hlk hy hb0 hbl
    have : x = 0 := by omega
    subst this
    exact ⟨0, y, hline, by omega, hl, hj, hlk, by show ht ps 0 ≤ H; exact hH, hy⟩
  | succ n ih =>
    intro x y h0 hl hn hline hj hlk hy hb0 hbl
    by_cases hx : ht ps x ≤ H
    · exact ⟨x, y, hline, h0, hl, hj, hlk, hx, hy⟩
    · have hx0 : 0 < x := by
        by_cases e : x = 0
        · subst e; exact absurd hH hx
        · omega
      obtain ⟨s, hs, hsl, hsj⟩ := just_by hT hx0 hl hj
      have hsb := mem_up_lt hT h0 hl hs
      refine ih s x hsb.1 (by omega) (by omega) ?_ hsj hsl (by omega) hb0 hbl
      rcases hline with rfl | hline
      · exact .inr hs
      · exact .inr (up_trans hT b.toNat b hb0 hbl (Nat.le_refl _) x hline s hs)

theorem ht_child {ps : List Int} (hT : Tree ps) {ws : List Int} {vs : List Vt} {a c : Int} (h : Fin' ws ps vs a c) : ht ps c = ht ps a + 1 := by
  have e : ht ps c = ht ps (ps[c.toNat]?.getD 0) + 1 := by unfold ht; rw [up_step hT h.c0 h.c1]; simp
  rw [e, h.par]

/-- Two links that nobody may vote for both. -/
theorem two_links {ws ps : List Int} {vs : List Vt} (hT : Tree ps) {a ca b cb : Int} (ha : Fin' ws ps vs a ca) (hb : Fin' ws ps vs b cb) (hle : ht ps a ≤ ht ps b) (h1 : a ≠ b) (h2 : a ∉ up ps b) :
    ∃ s1 t1 s2 t2, linkB ws vs s1 t1 = true ∧ linkB ws vs s2 t2 = true ∧ ∀ v, kindI ps ⟨v, s1, t1⟩ ⟨v, s2, t2⟩ ≠ 0 := by
  have hHa : 0 ≤ ht ps a := by unfold ht; omega
  obtain ⟨s, t, hline, hs0, hsl, hsj, hlk, hsh, hth⟩ := passes hT (ht ps a) hHa b b.toNat b cb hb.a0 hb.a1 (Nat.le_refl _) (.inl rfl) hb.just hb.lk (by rw [ht_child hT hb]; omega) hb.a0 hb.a1
  have hsa : s ≠ a := by
    rintro rfl
    rcases hline with rfl | hline
    · exact h1 rfl
    · exact h2 hline
  have hca := ht_child hT ha
  by_cases e1 : ht ps t = ht ps ca
  · refine ⟨s, t, a, ca, hlk, ha.lk, fun v => ?_⟩
    unfold kindI
    rw [if_neg (by rw [Vt.is_iff]; intro e; injection e with _ e2 _; exact hsa e2), if_pos e1]; omega
  · by_cases e2 : ht ps s = ht ps a
    · have hs00 : 0 < s := by
        by_cases e : s = 0
        · subst e
          have : a = 0 := ht_zero_iff hT ha.a0 ha.a1 (by rw [← e2]; exact Int.le_refl _)
          exact absurd this.symm hsa
        · omega
      have ha00 : 0 < a := by
        by_cases e : a = 0
        · subst e
          have : s = 0 := ht_zero_iff hT hs0 hsl (by rw [e2]; exact Int.le_refl _)
          exact absurd this hsa
        · have := ha.a0; omega
      obtain ⟨s', _, hl1, _⟩ := just_by hT hs00 hsl hsj
      obtain ⟨a', _, hl2, _⟩ := just_by hT ha00 ha.a1 ha.just
      refine ⟨s', s, a', a, hl1, hl2, fun v => ?_⟩
      unfold kindI
      rw [if_neg (by rw [Vt.is_iff]; intro e; injection e with _ _ e3; exact hsa e3), if_pos e2]; omega
    · refine ⟨s, t, a, ca, hlk, ha.lk, fun v => ?_⟩
      unfold kindI
      rw [if_neg (by rw [Vt.is_iff]; intro e; injection e with _ e2 _; exact hsa e2), if_neg e1, if_pos (.inl ⟨by show ht ps s < ht ps a; omega, by show ht ps ca < ht ps t; omega⟩)]; omega

theorem kindI_symm (ps : List Int) (x y : Vt) : kindI ps x y = kindI ps y x := by
  have hi : x.is y = y.is x := by
    by_cases h : x = y
    · subst h; rfl
    · have h1 := Vt.is_false.2 h
      have h2 := Vt.is_false.2 (Ne.symm h)
      rw [h1, h2]
  unfold kindI
  rw [hi]
  by_cases h1 : y.is x = true
  · rw [if_pos h1, if_pos h1]
  · rw [if_neg h1, if_neg h1]
    by_cases h2 : ht ps x.t = ht ps y.t
    · rw [if_pos h2, if_pos h2.symm]
    · rw [if_neg h2, if_neg (Ne.symm h2)]
      by_cases h3 : (ht ps x.s < ht ps y.s ∧ ht ps y.t < ht ps x.t) ∨ (ht ps y.s < ht ps x.s ∧ ht ps x.t < ht ps y.t)
      · rw [if_pos h3, if_pos h3.symm]
      · rw [if_neg h3, if_neg (fun h => h3 h.symm)]
theorem kindI_self (ps : List Int) (x : Vt) : kindI ps x x = 0 := by unfold kindI; rw [if_pos (Vt.is_iff.2 rfl)]
/-- Who gave two votes that nobody may is found. -/
theorem pairF_none {K : Vt → Vt → Int} (hs : ∀ x y, K x y = K y x) (h0 : ∀ x, K x x = 0) : ∀ {l : List Vt}, pairF K l = none → ∀ x ∈ l, ∀ y ∈ l, K x y = 0 := by
  intro l
  induction l with
  | nil => intro _ x hx; cases hx
  | cons z r ih =>
    intro h x hx y hy
    unfold pairF at h
    cases hf : r.find? (fun y => decide (K z y ≠ 0)) with
    | some y' => rw [hf] at h; cases h
    | none =>
      rw [hf] at h
      have hz : ∀ y ∈ r, K z y = 0 := fun y hy => by
        have := List.find?_eq_none.1 hf y hy
        simpa using this
      rcases List.mem_cons.1 hx with ex | hxr
      · rcases List.mem_cons.1 hy with ey | hyr
        · rw [ex, ey]; exact h0 _
        · rw [ex]; exact hz y hyr
      · rcases List.mem_cons.1 hy with ey | hyr
        · rw [ey, hs]; exact hz x hxr
        · exact ih h x hxr y hyr
/-- The guilty voters. -/
def guiltyV (n : Nat) (ps : List Int) (vs : List Vt) : List Int := ((List.range n).map (fun i : Nat => (i : Int))).filter (fun v => (guiltV ps vs v).isSome)
theorem guiltyV_nodup (n : Nat) (ps : List Int) (vs : List Vt) : (guiltyV n ps vs).Nodup := by
  have h1 : (List.range n).Pairwise (fun a b => a < b) := List.pairwise_lt_range
  have h2 : ((List.range n).map (fun i : Nat => (i : Int))).Pairwise (fun a b => a ≠ b) := List.pairwise_map.2 (h1.imp (fun h => by omega))
  exact h2.filter _
theorem mem_guiltyV {n : Nat} {ps : List Int} {vs : List Vt} {v : Int} : v ∈ guiltyV n ps vs ↔ (0 ≤ v ∧ v < n) ∧ (guiltV ps vs v).isSome = true := by
  unfold guiltyV
  simp only [List.mem_filter, List.mem_map, List.mem_range]
  constructor
  · rintro ⟨⟨i, hi, rfl⟩, h⟩; exact ⟨by omega, h⟩
  · rintro ⟨h1, h2⟩; exact ⟨⟨v.toNat, by omega, by omega⟩, h2⟩
theorem guilty_of {ps : List Int} {vs : List Vt} {v : Int} {x y : Vt} (hx : x ∈ vs) (hy : y ∈ vs) (hxv : x.v = v) (hyv : y.v = v) (hk : kindI ps x y ≠ 0) : (guiltV ps vs v).isSome = true := by
  unfold guiltV
  cases hp : pairF (kindI ps) (ofV vs v) with
  | some p => rfl
  | none =>
    exfalso
    refine hk (pairF_none (kindI_symm ps) (kindI_self ps) hp x ?_ y ?_)
    · unfold ofV; rw [List.mem_filter]; exact ⟨hx, by simpa using hxv⟩
    · unfold ofV; rw [List.mem_filter]; exact ⟨hy, by simpa using hyv⟩

/-- **If two blocks that do not agree are final, a third of all weight is guilty.** -/
theorem a_third {ws ps : List Int} {vs : List Vt} (hT : Tree ps) (hW : OkWs ws) (hO : OkV ws.length ps vs) {a b : Int} (ha : a ∈ finalL ws ps vs) (hb : b ∈ finalL ws ps vs) (h1 : a ≠ b) (h2 : a ∉ up ps b) (h3 : b ∉ up ps a) : sumI ws ≤ 3 * wSum ws (guiltyV ws.length ps vs) := by
  obtain ⟨ca, fa⟩ := final_link ha
  obtain ⟨cb, fb⟩ := final_link hb
  have key : ∃ s1 t1 s2 t2, linkB ws vs s1 t1 = true ∧ linkB ws vs s2 t2 = true ∧ ∀ v, kindI ps ⟨v, s1, t1⟩ ⟨v, s2, t2⟩ ≠ 0 := by
    by_cases hle : ht ps a ≤ ht ps b
    · exact two_links hT fa fb hle h1 h2
    · exact two_links hT fb fa (by omega) (Ne.symm h1) h3
  obtain ⟨s1, t1, s2, t2, l1, l2, hk⟩ := key
  unfold linkB at l1 l2
  have bnd : ∀ s t, ∀ v ∈ onL vs s t, 0 ≤ v ∧ v < ws.length := fun s t v hv => hO.v _ (mem_onL.1 hv)
  exact third_shared hW (onL_nodup hO s1 t1) (onL_nodup hO s2 t2) (guiltyV_nodup _ _ _) (bnd s1 t1) (bnd s2 t2) (fun v hv => (mem_guiltyV.1 hv).1) (of_decide_eq_true l1) (of_decide_eq_true l2)
    (fun v hA hB => mem_guiltyV.2 ⟨bnd s1 t1 v hA, guilty_of (mem_onL.1 hA) (mem_onL.1 hB) rfl rfl (hk v)⟩)
end Go.Proofs.Ytgebcnnenhgkcaa
