/- prove, Proof: the shortest proof of a final block, in new memory. -/
import Derived.Test.YtgebcnnenhgkcaaGreatPathA
import Derived.Test.YtgebcnnenhgkcaaGreatGuiltA
namespace Go.Proofs.YtgebcnnenhgkcaaGreat
open Go.RowKit Go.Shelf

theorem LinksAt.snoc {V W : World} {base : Nat} {v v3 : Value} {X : List LkV} {l : Lk} {u : Value} (h : LinksAt V base v X) (hu : V.ownsRow base 3 1 u l.vs.length (l.vs.map I64)) (hnew : ∀ x ∈ X, ∀ k, x.2.ownBlock = some k → u.ownBlock ≠ some k)
    (hown : W.ownsRow base 121 3 v3 (X.length + 1) (lvRow X ++ [I64 l.s, I64 l.t, u])) (hgrow : V.grownBy W v.ownBlock) : LinksAt W base v3 (X ++ [(l, u)]) := by
  have hcg : Chg (fun k => v.ownBlock = some k) V W := (Chg.refl _ V).grown hgrow (fun k e => .inl e)
  have ap : ∀ {z : Value} {m : Nat} {ys : List Value}, V.ownsRow base 3 1 z m ys → ∀ k, z.ownBlock = some k → ¬ v.ownBlock = some k := fun hz k hk e => by
    obtain ⟨c1, e1⟩ := row_type (row_low hz) hk
    exact not_row (row_low h.row) e1 (by decide) e
  refine ⟨?_, fun y hy => ?_, ?_⟩
  · rw [lvRow_append, List.length_append]
    exact hown
  · rcases List.mem_append.1 hy with h1 | h1
    · exact hcg.row (h.each y h1) (ap (h.each y h1))
    · simp only [List.mem_singleton] at h1
      subst h1
      exact hcg.row hu (ap hu)
  · rw [List.pairwise_append]
    refine ⟨h.apart, by simp, fun y hy z hz k hk => ?_⟩
    simp only [List.mem_singleton] at hz
    subst hz
    exact hnew y hy k hk

/-- The proof that is given: the links of the way, and the last one. -/
def proofL (ws ps : List Int) (vs : List Vt) (b c : Int) : List Lk := ((walkS (linkB ws vs) (stAt (stepsC ws ps vs)) b (up ps b)).2.reverse).map (mkL ws vs) ++ [mkL ws vs (b, c)]

/-- What Proof answers of a block: the error, and the links. -/
def ProofOf (ws ps : List Int) (vs : List Vt) (a er : Int) (L : List Lk) : Prop :=
  (hasB ps.length a = false ∧ er = 4 ∧ L = []) ∨ (hasB ps.length a = true ∧ (isJust ws ps vs a = false ∨ childF ws ps vs a = none) ∧ er = 8 ∧ L = []) ∨ (hasB ps.length a = true ∧ isJust ws ps vs a = true ∧ ∃ c, childF ws ps vs a = some c ∧ er = 0 ∧ L = proofL ws ps vs a c)
theorem stepsC_bounds {ws ps : List Int} {vs : List Vt} (hT : Tree ps) (j : Nat) : 0 ≤ (stepsC ws ps vs)[j]?.getD 0 ∧ (stepsC ws ps vs)[j]?.getD 0 ≤ 40 := stepsL_bounds _ _ hT _ (Nat.le_refl _) j

set_option maxRecDepth 100000 in
set_option maxHeartbeats 4000000 in
theorem prove_at (b : Nat) (S : Nat → Prop) (m : Int) (ws ps : List Int) (vs : List Vt) (wv pv vv : Value) (a : Int) (w : World) (h : CourtAt w b S m ws ps vs wv pv vv) (hT : Tree ps) (hW : OkWs ws) (hl : vs.length ≤ 300) (hO : OkV ws.length ps vs) :
    Calls Tryz.prog 59 #[.pointer (some ⟨b, 0, none⟩), .int .i64 a] w fun e w' => (∃ v X er, e = .returned (.tuple #[v, .int .i64 er]) ∧ LinksAt w' w.heap.size v X ∧
      ProofOf ws ps vs a er (X.map (fun x => x.1))) ∧ Below w.heap.size w w' := by
  obtain ⟨g0, cap0, rfl, _, _, hcs0, _⟩ := row_open h.prow hT.1
  obtain ⟨i0, hi, hz0, hz1, hz2⟩ := info_parts info_link
  have h3 := h.c3
  have hw12 := hW.le
  have hT2 := hT.2.1
  clear hcs0
  cases hh : hasB ps.length a with
  | false =>
    have HH : Hid (hasB ps.length a = false) := hh
    go_enter Tryz.func59, Tryz.ntmps59
    go_wp2_with fail
    refine (has_at b 3 _ _ _ a _ h3).mono ?_
    rintro e w1 ⟨rfl, rfl⟩
    rw [hh]
    go_wp2
    go_ret2
    exact ⟨⟨_, [], 4, rfl, LinksAt.nil _ _, .inl ⟨HH.out, rfl, rfl⟩⟩, Below.refl _ _⟩
  | true =>
    have ha : 0 ≤ a ∧ a < ps.length := by simpa [hasB] using hh
    have HH : Hid (hasB ps.length a = true) := hh
    go_enter Tryz.func59, Tryz.ntmps59
    go_wp2_with fail
    refine (has_at b 3 _ _ _ a _ h3).mono ?_
    rintro e w1 ⟨rfl, rfl⟩
    rw [hh]
    clear hh
    go_wp2_with fail
    refine (steps_at b S m ws ps vs _ _ _ _ h hT hW hl hO).mono ?_
    rintro e w2 ⟨⟨g, rfl, hg, hN⟩, hB2⟩
    have h2 := h.kept (Chg.of_below (fun _ => False) hB2) (fun _ _ hf => hf)
    have hgl := hN.lt
    have hcells : ∀ j, j < ps.length → w2.cell? ⟨g, j, none⟩ = some (I64 ((stepsC ws ps vs)[j]?.getD 0)) := fun j hj => by
      have hjl : j < (stepsC ws ps vs).length := by rw [stepsC_length]; exact hj
      have := (hN.cell (j := j) (by simpa using hjl)).1
      rw [this]
      congr 2
      rw [getElem!_pos _ _ (by simpa using hjl)]
      simp [List.getElem?_eq_getElem hjl]
    go_wp2_with fail
    refine (linkedChild_at b S m ws ps vs _ _ _ a _ h2 hT hW hl hO).mono ?_
    rintro e w3 ⟨rfl, hB3⟩
    have h3' := h2.kept (Chg.of_below (fun _ => False) hB3) (fun _ _ hf => hf)
    have hBw : Below w1.heap.size w1 w3 := hB2.trans (hB3.mono hB2.size)
    have hcells3 : ∀ j, j < ps.length → w3.cell? ⟨g, j, none⟩ = some (I64 ((stepsC ws ps vs)[j]?.getD 0)) := fun j hj => (hB3.cell (p := ⟨g, j, none⟩) hgl).trans (hcells j hj)
    have hca := hcells3 a.toNat (by omega)
    obtain ⟨sa, hsa⟩ : ∃ sa, (stepsC ws ps vs)[a.toNat]?.getD 0 = sa := ⟨_, rfl⟩
    rw [hsa] at hca
    have HJ : Hid (isJust ws ps vs a = (sa != 40)) := by show _ = _; unfold isJust stAt; rw [hsa]
    have HCL : Hid _ := hcells3
    have HCH : Hid (childF ws ps vs a = childF ws ps vs a) := rfl
    clear hsa hcells hcells3 h3
    by_cases h40 : sa = 40
    · have q1 : (sa == 40) = true := by simpa using h40
      have HJ' : Hid (isJust ws ps vs a = false) := by show _ = _; rw [HJ.out, h40]; rfl
      clear h40 HJ
      go_wp2
      go_ret2
      exact ⟨⟨_, [], 8, rfl, LinksAt.nil _ _, .inr (.inl ⟨HH.out, .inl HJ'.out, rfl, rfl⟩)⟩, hBw⟩
    · have q1 : (sa == 40) = false := by simpa using h40
      have HJ' : Hid (isJust ws ps vs a = true) := by show _ = _; rw [HJ.out]; simpa using h40
      clear h40 HJ HCH
      cases hch : childF ws ps vs a with
      | none =>
        have HCN : Hid (childF ws ps vs a = none) := hch
        clear hch
        go_wp2
        go_ret2
        exact ⟨⟨_, [], 8, rfl, LinksAt.nil _ _, .inr (.inl ⟨HH.out, .inr HCN.out, rfl, rfl⟩)⟩, hBw⟩
      | some c =>
        have HCS : Hid (childF ws ps vs a = some c) := hch
        clear hch
        go_wp2_with fail
        refine (pathTo_at b S m ws ps (stepsC ws ps vs) vs _ _ _ g ps.length a _ h3' hT hW hl hO HCL.out (stepsC_bounds hT) ha.1 (by omega)).mono ?_
        rintro e w4 ⟨⟨v, X, rfl, hL4, hX⟩, hB4⟩
        have HX : Hid _ := hX
        have hXl : X.length ≤ 40 := by
          have h1 := congrArg List.length hX
          have h2 := walkS_length (linkB ws vs) (stAt (stepsC ws ps vs)) a (up ps a)
          have h3 := (ht_bounds hT ha.1 (by omega)).2
          unfold ht at h3
          simp at h1
          omega
        clear hX
        have h4' := h3'.kept (Chg.of_below (fun _ => False) hB4) (fun _ _ hf => hf)
        go_wp2_with fail
        refine (link_at b S m ws ps vs _ _ _ a c _ h4' hw12 hl hO).mono ?_
        rintro e w5 ⟨⟨u, rfl, hru⟩, hB5⟩
        have hL5 := hL4.below hB5 (Nat.le_refl _)
        obtain ⟨pu, cu, hu⟩ := row_slice hru
        subst hu
        obtain ⟨pX, cX, hv⟩ := row_slice hL5.row
        subst hv
        have hz5 := hB5.size
        have hz4 := hB4.size
        have hz3 := hBw.size
        have hBw5 : Below w1.heap.size w1 w5 := (hBw.trans (hB4.mono hBw.size)).trans (hB5.mono (by omega))
        have h63 : Hid (X.length + 1 ≤ maxLen) := by show _ ≤ _; unfold maxLen; omega
        go_wp2_with (at_builtin; refine wpList_append_own _ (by rfl) _ _ _ (by rfl) w1.heap.size 121 i0 (.agg #[I64 0, I64 0, .slice none 0 0]) 3 40 Tryz.underlying69 hi hz0 hz1 hz2 rfl (by omega) _ X.length (lvRow X) (by rfl) ((row_lower hL5.row hz3).alloc _) ⟨w5.heap.size, 0, none⟩ 1 1 [I64 a, I64 c, .slice pu (votersL ws.length vs a c).length cu] (by rfl) (by rfl) (cells_one _ #[I64 a, I64 c, .slice pu (votersL ws.length vs a c).length cu] _) (by simp [Value.oneCell']) h63.out (by omega) (by simp; omega) ?_; intro v6 w6 hown6 hgrow6 hnil6)
        obtain ⟨p6, c6, hv6⟩ := row_slice hown6
        subst hv6
        have hL6 := (LinksAt.snoc (l := mkL ws vs (a, c)) ((hL5.lower hz3).below ((Below.refl w5.heap.size w5).alloc (Nat.le_refl _) (.cells #[I64 a, I64 c, .slice pu (votersL ws.length vs a c).length cu] 121)) (Nat.le_refl _)) ((row_lower hru (by omega)).alloc _) (fun x hx k hk e => by have h1 := ((hL4.each x hx).lt k hk).2; have h2 := (hru.lt k e).1; omega) hown6 hgrow6)
        go_ret2
        refine ⟨⟨_, _, 0, rfl, hL6, .inr (.inr ⟨HH.out, HJ'.out, c, HCS.out, rfl, ?_⟩)⟩, (hBw5.alloc hBw5.size _).grown hgrow6 (by simp; omega) (fun j e => by have := (hL5.row.lt j e).1; omega)⟩
        rw [List.map_append, HX.out]
        rfl

set_option maxHeartbeats 1000000 in
theorem proof_at (b : Nat) (S : Nat → Prop) (ws ps : List Int) (vs : List Vt) (wv pv vv : Value) (a : Int) (w : World) (h : CourtAt w b S 0 ws ps vs wv pv vv) (hT : Tree ps) (hW : OkWs ws) (hl : vs.length ≤ 300) (hO : OkV ws.length ps vs) :
    Calls Tryz.prog 24 #[.pointer (some ⟨b, 0, none⟩), .int .i64 a] w fun e w' => (∃ v X er, e = .returned (.tuple #[v, .int .i64 er]) ∧ LinksAt w' w.heap.size v X ∧
      ProofOf ws ps vs a er (X.map (fun x => x.1))) ∧ CourtAt w' b S 0 ws ps vs wv pv vv ∧ Chg S w w' := by
  obtain ⟨gw, capw, rfl, _, _, _, _⟩ := row_open h.wrow hW.pos
  obtain ⟨h1, c1⟩ := h.setM 1
  have hd : decide (0 < ws.length) = true := by simpa using hW.pos
  go_enter_defers Tryz.func24, Tryz.ntmps24
  go_wp2_with fail
  refine (lock_at b 0 _ h.c0 (h.fz 0)).mono ?_
  rintro e w1 ⟨rfl, hw1⟩
  rw [← hw1] at h1 c1
  clear hw1
  go_wp2_with fail
  refine (made_at b 0 _ _ _ _ h1.c2).mono ?_
  rintro e w2 ⟨rfl, rfl⟩
  rw [hd]
  go_wp2_with fail
  refine (prove_at b S 1 ws ps vs _ pv vv a _ h1 hT hW hl hO).mono ?_
  rintro e w4 ⟨⟨v, X, er, rfl, hL4, hcs⟩, hB5⟩
  have HCS : Hid _ := hcs
  clear hcs
  have h4 := h1.kept (Chg.of_below (fun _ => False) hB5) (fun _ _ hf => hf)
  have hlb := h1.lt b h1.inb
  obtain ⟨pX, cX, hv⟩ := row_slice hL4.row
  subst hv
  go_wp2_with fail
  refine leaves_cons (f := 33) (args := #[.pointer (some ⟨b, 0, none⟩)]) (by simp) (by simp [go_sem]) ?_
  refine (unlock_at b 0 .returning _ h4.c0 (h4.fz 0)).mono ?_
  rintro e u' w'' ⟨rfl, rfl, rfl⟩
  obtain ⟨h5, c5⟩ := h4.setM 0
  have hcb : Chg (fun k => k = b) w4 (w4.setCell ⟨b, 0, none⟩ (.int .i32 0)) := (Chg.refl (fun k => k = b) w4).setCell (p := ⟨b, 0, none⟩) (.inl rfl) _
  have hL5 := hL4.kept hcb (fun k hk e => by have := (hL4.row.lt k hk).1; omega) (fun x hx k hk e => by have := ((hL4.each x hx).lt k hk).1; omega)
  refine ⟨.tuple #[.slice pX X.length cX, .int .i64 er], ?_, ⟨_, X, er, rfl, hL5.lower c1.size, HCS.out⟩, h5, (c1.trans (Chg.of_below S hB5)).trans c5⟩
  simp [results, Tryz.f24]
end Go.Proofs.YtgebcnnenhgkcaaGreat
