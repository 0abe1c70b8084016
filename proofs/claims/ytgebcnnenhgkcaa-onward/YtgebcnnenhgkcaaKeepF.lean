/- The statements without the document's answer: Third. -/
import Derived.Test.YtgebcnnenhgkcaaKeepD
import Derived.Test.YtgebcnnenhgkcaaKeepE
namespace Go.Proofs.Ytgebcnnenhgkcaa
open Go.RowKit Go.Shelf

theorem kguRow_at {gs : List Gu} {j : Nat} {g : Gu} (h : gs[j]? = some g) {i : Nat} {u : Value} (hu : (guCells g)[i]? = some u) : (guRow gs)[j * 8 + i]? = some u := by
  induction gs generalizing j with
  | nil => simp at h
  | cons a r ih =>
    have e : guRow (a :: r) = guCells a ++ guRow r := by simp [guRow]
    have hi : i < 8 := by have := (List.getElem?_eq_some_iff.1 hu).1; simpa [guCells] using this
    rw [e]
    cases j with
    | zero =>
      simp at h; subst h
      rw [List.getElem?_append_left (by simp [guCells]; omega)]; simpa using hu
    | succ j =>
      rw [List.getElem?_append_right (by simp [guCells]; omega)]
      have := ih (j := j) (by simpa using h)
      simp only [guCells, List.length_cons, List.length_nil]
      rw [show (j + 1) * 8 + i - (0 + 1 + 1 + 1 + 1 + 1 + 1 + 1 + 1) = j * 8 + i by omega]
      exact this
/-- A row of guilts, of votes, of numbers: what lies, and its slice. -/
theorem glies_of {w : World} {base : Nat} {v : Value} {gs : List Gu} (h : w.ownsRow base 73 8 v gs.length (guRow gs)) : ∃ p c, v = .slice p gs.length c ∧ GLies w p gs := by
  have h' := h
  rcases h.2 with ⟨rfl, hn⟩ | ⟨g, cap, cur, rfl, _, hg, hle, hm, hs, ht⟩
  · exact ⟨none, 0, by rw [hn], .inl (List.length_eq_zero_iff.1 hn)⟩
  · refine ⟨_, _, rfl, .inr ⟨g, rfl, fun j gu hj i u hu => ?_⟩⟩
    have hi : i < 8 := by have := (List.getElem?_eq_some_iff.1 hu).1; simpa [guCells] using this
    have hj' : j < gs.length := (List.getElem?_eq_some_iff.1 hj).1
    rw [(row_low h').cellAt _ (by omega)]
    exact kguRow_at hj hu
theorem vlies_of {w : World} {base : Nat} {v : Value} {vs : List Vt} (h : w.ownsRow base 70 3 v vs.length (vtRow vs)) : ∃ p c, v = .slice p vs.length c ∧ VLies w p vs := by
  by_cases hp : 0 < vs.length
  · obtain ⟨g, cap, rfl, _, _, hc, _⟩ := vrow_open (row_low h) hp
    exact ⟨_, _, rfl, .inr ⟨g, rfl, hc⟩⟩
  · have e : vs = [] := List.length_eq_zero_iff.1 (by omega)
    subst e
    rcases h.2 with ⟨rfl, hn⟩ | ⟨g, cap, cur, rfl, _⟩
    · exact ⟨none, 0, rfl, .inl rfl⟩
    · exact ⟨_, _, rfl, .inl rfl⟩
def ILies (w : World) (p : Option Addr) (xs : List Int) : Prop := xs = [] ∨ ∃ g, p = some ⟨g, 0, none⟩ ∧ ∀ j, j < xs.length → w.cell? ⟨g, j, none⟩ = some (I64 (xs[j]?.getD 0))
theorem ilies_of {w : World} {base : Nat} {v : Value} {xs : List Int} (h : w.ownsRow base 3 1 v xs.length (xs.map I64)) : ∃ p c, v = .slice p xs.length c ∧ ILies w p xs ∧ xs.length ≤ maxLen := by
  by_cases hp : 0 < xs.length
  · obtain ⟨g, cap, rfl, hle, hm, hc, _⟩ := row_open (row_low h) hp
    exact ⟨_, _, rfl, .inr ⟨g, rfl, hc⟩, by omega⟩
  · have e : xs = [] := List.length_eq_zero_iff.1 (by omega)
    subst e
    rcases h.2 with ⟨rfl, hn⟩ | ⟨g, cap, cur, rfl, _⟩
    · exact ⟨none, 0, rfl, .inl rfl, Nat.zero_le _⟩
    · exact ⟨_, _, rfl, .inl rfl, Nat.zero_le _⟩
theorem GLies.below {w w' : World} {p : Option Addr} {G : List Gu} (h : GLies w p G) (hB : Below w.heap.size w w') : GLies w' p G := by
  rcases h with h | ⟨g, e, h⟩
  · exact .inl h
  · exact .inr ⟨g, e, fun j gu hj i u hu => by
      have h1 := h j gu hj i u hu
      exact (hB.cell (p := ⟨g, j * 8 + i, none⟩) (World.block_lt_of_cell? w _ h1)).trans h1⟩
theorem VLies.below {w w' : World} {p : Option Addr} {vs : List Vt} (h : VLies w p vs) (hB : Below w.heap.size w w') : VLies w' p vs := by
  rcases h with h | ⟨g, e, h⟩
  · exact .inl h
  · by_cases h0 : 0 < vs.length
    · exact .inr ⟨g, e, h.below hB (h.lt h0)⟩
    · exact .inl (List.length_eq_zero_iff.1 (by omega))

theorem treeAt_drewN {w : World} {b o g cap : Nat} {ps : List Int} (hT : Tree ps) (h : TreeAt w b o g cap ps) (n : Nat) : TreeAt (w.drewN n) b o g cap ps := h.below (below_drewN (Below.refl w.heap.size w) n) h.lt_b (h.lt_g hT.1)

/-- Two votes of a voter, by their places, that nobody may give. -/
def Bad (ps : List Int) (vs : List Vt) (v : Int) (a b : Nat) : Prop := ∃ x y, vs[a]? = some x ∧ vs[b]? = some y ∧ x.v = v ∧ y.v = v ∧ kindI ps x y ≠ 0
theorem bad_iff {ps : List Int} {vs : List Vt} {v : Int} : (∃ x ∈ vs, ∃ y ∈ vs, x.v = v ∧ y.v = v ∧ kindI ps x y ≠ 0) ↔ ∃ a b, b < a ∧ a < vs.length ∧ Bad ps vs v a b := by
  constructor
  · rintro ⟨x, hx, y, hy, h1, h2, hk⟩
    obtain ⟨i, hi⟩ := List.mem_iff_getElem?.1 hx
    obtain ⟨j, hj⟩ := List.mem_iff_getElem?.1 hy
    have li := (List.getElem?_eq_some_iff.1 hi).1
    have lj := (List.getElem?_eq_some_iff.1 hj).1
    rcases Nat.lt_trichotomy i j with h | h | h
    · exact ⟨j, i, h, lj, y, x, hj, hi, h2, h1, by rw [kindI_symm]; exact hk⟩
    · subst h
      rw [hi] at hj
      injection hj with e
      subst e
      exact absurd (kindI_self ps x) hk
    · exact ⟨i, j, h, li, x, y, hi, hj, h1, h2, hk⟩
  · rintro ⟨a, b, _, _, x, y, h1, h2, h3, h4, h5⟩
    exact ⟨x, List.mem_of_getElem? h1, y, List.mem_of_getElem? h2, h3, h4, h5⟩

set_option maxRecDepth 100000 in
set_option maxHeartbeats 8000000 in
theorem third_at (p q : Option Addr) (c d : Nat) (raw votes : List Int) (w : World) (hx : IntsAt w p raw) (hy : IntsAt w q votes) (hq : ∀ a, q = some a → a.block < w.heap.size) (hl : raw.length ≤ maxLen) (hl2 : votes.length ≤ maxLen)
    (hb : ∀ r ∈ raw, -9223372036854775808 ≤ r ∧ r ≤ 9223372036854775807) (hb2 : ∀ r ∈ votes, -9223372036854775808 ≤ r ∧ r ≤ 9223372036854775807) :
    Calls Try.prog 6 #[.slice p raw.length c, .slice q votes.length d] w fun e w' => e = .returned (.bool true) ∧ Below w.heap.size w w' := by
  go_enter Try.func6, Try.ntmps6
  go_wp2_with fail
  refine (weights_at p c raw w hx hl hb).mono ?_
  rintro e w1 ⟨⟨vw, rfl, hrw⟩, hB1⟩
  have hok := wsOf_ok raw
  obtain ⟨ws, hws⟩ : ∃ ws, wsOf raw = ws := ⟨_, rfl⟩
  rw [hws] at hrw hok ⊢
  clear hws
  have hW := okWs_of hok
  go_wp2_with fail
  refine (opened_at vw ws w1 (row_low hrw) hok).mono ?_
  rintro e w2 ⟨b, S0, wv, pv, rfl, hC2, hB2, hS2⟩
  have hz1 := hB1.size
  have hz2 := hB2.size
  have hBw2 : Below w.heap.size w w2 := hB1.trans (hB2.mono hz1)
  have hy2 : IntsAt w2 q votes := by
    rcases hy with e | ⟨g, o, e, hc⟩
    · exact .inl e
    · exact .inr ⟨g, o, e, fun j hj => (hBw2.cell (p := ⟨g, o + j, none⟩) (World.block_lt_of_cell? w _ (hc j hj))).trans (hc j hj)⟩
  obtain ⟨gw, capw, rfl, _, _, hcw, _⟩ := row_open (row_low hrw) hW.pos
  have hgw := (hrw.lt gw rfl)
  go_wp2_with fail
  refine (voted_at b S0 ws wv pv q d votes w2 hC2 hW hy2 (fun a ha hs => by have := hS2 _ hs; have := hq a ha; omega) hl2 hb2).mono ?_
  rintro e w3 ⟨bt, S, ps, vs, pv', vv', gT, capT, lv, rfl, hK, hT, hO, hvl⟩
  have hBw3 : Below w.heap.size w w3 := hBw2.trans (hK.chg.below hBw2.size (fun k hk hs => by have := hS2 _ hs; omega))
  go_wp2_with fail
  refine (guilty_at b S ws ps vs wv pv' vv' w3 hK.court hT hW hvl hO).mono ?_
  rintro e w4 ⟨⟨vG, rfl, hrG⟩, hC4, hc4⟩
  have hK4 := hK.move hC4 hc4 (fun _ hk => .inl hk)
  have hSw : ∀ k, S k → w.heap.size ≤ k := fun k hk => (hK.sub k hk).elim (fun h => by have := hS2 _ h; omega) (fun h => by have := hBw2.size; omega)
  have hBw4 : Below w.heap.size w w4 := hBw3.trans (hc4.below hBw3.size (fun k hk hs => by have := hSw _ hs; omega))
  have hngw : ¬ S gw := fun hs => (hK.sub gw hs).elim (fun h => by have := hS2 _ h; omega) (fun h => by omega)
  have hngw0 : ¬ S0 gw := fun hs => by have := hS2 _ hs; omega
  have hcw4 : ∀ j, j < ws.length → w4.cell? ⟨gw, j, none⟩ = some (I64 (ws[j]?.getD 0)) := fun j hj => hc4.cell (hK.chg.cell ((hB2.cell (p := ⟨gw, j, none⟩) hgw.2).trans (hcw j hj)) hngw0) hngw
  have hvG : ∀ k, vG.ownBlock = some k → ¬ S k := fun k hk hs => by have := (hrG.lt k hk).1; have := hK.court.lt k hs; omega
  obtain ⟨G, hG⟩ : ∃ G, guiltL ws.length ps vs = G := ⟨_, rfl⟩
  have hGl : G.length ≤ 12 := by rw [← hG]; exact Nat.le_trans (guiltL_length _ _ _) hW.le
  have hGof : ∀ gu ∈ G, GuOf ws.length ps vs gu := fun gu h => guiltL_of (by rw [hG]; exact h)
  have hGup : G.Pairwise (fun a b => a.v < b.v) := by rw [← hG]; exact guiltL_up _ _ _
  have HGV : Hid (G.map (fun g => g.v) = guiltyV ws.length ps vs) := by show _ = _; rw [← hG]; exact guiltL_v _ _ _
  have HTL : Hid (∀ v : Int, 0 ≤ v → v < ws.length → ((∃ g ∈ G, g.v = v) ↔ ∃ a b, b < a ∧ a < vs.length ∧ Bad ps vs v a b)) := fun v h0 h1 => by rw [← hG, ← bad_iff]; exact told_iff h0 h1
  rw [hG] at hrG
  clear hG
  obtain ⟨pG, cG, rfl, hGL⟩ := glies_of hrG
  obtain ⟨pV, cV, rfl, hVL⟩ := vlies_of hK4.lrow
  have hA4 := hK4.treeAt hT.1
  have HTH : Hid (∀ a ∈ finalL ws ps vs, ∀ b ∈ finalL ws ps vs, (a == b || (ahead ps a b || ahead ps b a)) = false → sumI ws ≤ 3 * wSum ws (G.map (fun g => g.v))) := fun a ha b hb hag => by
    rw [HGV.out]
    simp only [Bool.or_eq_false_iff, beq_eq_false_iff_ne] at hag
    exact a_third hT hW hO ha hb hag.1 (fun h => by rw [← ahead_mem, hag.2.1] at h; cases h) (fun h => by rw [← ahead_mem, hag.2.2] at h; cases h)
  go_wp2_with fail
  refine (named_at bt gT capT cG cV gw capw pG pV ps ws vs G hT hO hW hvl hGl hGof hGup w4 hA4 hGL hVL hcw4).mono ?_
  rintro e w5 ⟨rfl, hB5⟩
  have hK5 := hK4.on (Chg.of_below (fun _ => False) hB5)
  have hBw5 : Below w.heap.size w w5 := hBw4.trans (hB5.mono hBw4.size)
  have hrG5 := row_below hrG hB5 (Nat.le_refl _)
  go_wp2_with fail
  refine (final_at b S ws ps vs wv pv' vv' w5 hK5.court hT hW hvl hO).mono ?_
  rintro e w6 ⟨⟨vF, rfl, hrF⟩, hC6, hc6⟩
  have hK6 := hK5.move hC6 hc6 (fun _ hk => .inl hk)
  have hBw6 : Below w.heap.size w w6 := hBw5.trans (hc6.below hBw5.size (fun k hk hs => by have := hSw _ hs; omega))
  obtain ⟨F, hF⟩ : ∃ F, finalL ws ps vs = F := ⟨_, rfl⟩
  have HFB : Hid (∀ x ∈ F, 0 ≤ x ∧ x.toNat < ps.length) := fun x hx => by
    rw [← hF] at hx
    unfold finalL at hx
    have := mem_justL (List.mem_filter.1 hx).1
    exact ⟨this.1, this.2.1⟩
  rw [hF] at hrF HTH
  clear hF
  obtain ⟨pF, cF, rfl, hFL, hFm⟩ := ilies_of hrF
  have hFm' : F.length ≤ 9223372036854775807 := by unfold maxLen at hFm; omega
  obtain ⟨p', c', he, hGL6⟩ := glies_of (hc6.row hrG5 hvG)
  simp only [Value.slice.injEq, true_and] at he
  obtain ⟨rfl, rfl⟩ := he
  obtain ⟨p', c', he, hVL6⟩ := vlies_of hK6.lrow
  simp only [Value.slice.injEq, true_and] at he
  obtain ⟨rfl, rfl⟩ := he
  have hA6 := hK6.treeAt hT.1
  have hw12 := hW.le
  have hT2 := hT.2.1
  have HWW : Hid (OkWs ws) := hW
  obtain ⟨sm, hsm⟩ : ∃ sm, wSum ws (G.map (fun g => g.v)) = sm := ⟨_, rfl⟩
  have hsmb : 0 ≤ sm ∧ sm ≤ 1200 := by
    have h1 := sumI_bounds (l := (G.map (fun g => g.v)).map (wAt ws)) (m := 100) (fun z hz => by
      simp only [List.map_map, List.mem_map] at hz
      obtain ⟨gu, hgu, rfl⟩ := hz
      have h3 := hGof gu hgu
      have := hW.wAt (v := gu.v) (by have := h3.v0; have := h3.v1; omega)
      simp only [Function.comp]
      omega)
    rw [← hsm]
    unfold wSum
    simp only [List.length_map] at h1
    omega
  rw [hsm] at HTH ⊢
  obtain ⟨all, hall⟩ : ∃ all, sumI ws = all := ⟨_, rfl⟩
  rw [hall] at HTH ⊢
  clear hsm hall hC2 hB2 hS2 hy2 hcw hK hC4 hc4 hK4 hngw hngw0 hcw4 hvG hGof hGup HGV hrG hGL hVL hA4 hB5 hK5 hrG5 hC6 hc6 hrF hFm hx hy hq hb hb2 hBw2 hBw3 hBw4 hBw5 hSw hgw hrw hB1 hW
  go_wp2_with fail
  go_loopw [14] (fun ii wr => ∃ i : Nat, i ≤ F.length ∧ ii = .int .i64 i ∧ Below w6.heap.size w6 wr) (fun ii _ => F.length - (intOf ii).toNat)
  case atStart => exact ⟨0, by omega, rfl, Below.refl _ _⟩
  case round =>
    obtain ⟨i, hi, rfl, hB⟩ := hrel
    by_cases hlt : i < F.length
    · have hlt' : (i : Int) < (F.length : Int) := by omega
      go_wp2_with fail
      go_loopw [15] (fun kk wr => ∃ k : Nat, k ≤ i ∧ kk = .int .i64 k ∧ Below w6.heap.size w6 wr) (fun kk _ => i - (intOf kk).toNat)
      case atStart => exact ⟨0, by omega, rfl, hB⟩
      case round =>
        clear hB
        obtain ⟨k, hk, rfl, hB⟩ := hrel
        by_cases hkl : k < i
        · have hkl' : (k : Int) < (i : Int) := by omega
          have hkF : (k : Int) < (F.length : Int) := by omega
          have hkN : k < F.length := by omega
          rcases hFL with rfl | ⟨gF, rfl, hcF⟩
          · simp at hlt
          obtain ⟨x, hx⟩ : ∃ x, F[i]? = some x := ⟨_, List.getElem?_eq_getElem hlt⟩
          obtain ⟨y, hy⟩ : ∃ y, F[k]? = some y := ⟨_, List.getElem?_eq_getElem hkN⟩
          have hcx6 : w6.cell? ⟨gF, i, none⟩ = some (I64 x) := by have h1 := hcF i hlt; rw [hx] at h1; exact h1
          have hcy6 : w6.cell? ⟨gF, k, none⟩ = some (I64 y) := by have h1 := hcF k hkN; rw [hy] at h1; exact h1
          have hcx : wr.cell? ⟨gF, i, none⟩ = some (I64 x) := (hB.cell (p := ⟨gF, i, none⟩) (World.block_lt_of_cell? w6 _ hcx6)).trans hcx6
          have hcy : wr.cell? ⟨gF, k, none⟩ = some (I64 y) := (hB.cell (p := ⟨gF, k, none⟩) (World.block_lt_of_cell? w6 _ hcy6)).trans hcy6
          have hAr : TreeAt wr bt 0 gT capT ps := hA6.below hB hA6.lt_b (hA6.lt_g hT.1)
          have hct := hAr.pv
          obtain ⟨hx0, hx1⟩ := HFB.out x (List.mem_of_getElem? hx)
          obtain ⟨hy0, hy1⟩ := HFB.out y (List.mem_of_getElem? hy)
          have HH := HTH.out x (List.mem_of_getElem? hx) y (List.mem_of_getElem? hy)
          have hag := fun W hA => kAgree_at bt gT capT ps hT x y hx0 hx1 hy0 hy1 W hA
          clear hx hy hcx6 hcy6 hcF
          have b1 : ¬ x < 0 := by omega
          have b2 : ¬ x ≥ (ps.length : Int) := by omega
          have b3 : ¬ y < 0 := by omega
          have b4 : ¬ y ≥ (ps.length : Int) := by omega
          have d1 : decide (x < 0) = false := decide_eq_false b1
          have d2 : decide (x ≥ (ps.length : Int)) = false := decide_eq_false b2
          have d3 : decide (y < 0) = false := decide_eq_false b3
          have d4 : decide (y ≥ (ps.length : Int)) = false := decide_eq_false b4
          go_wp2_with fail
          go_quiet (fail)
          have hB9 := below_drewN hB nq
          have hcx9 : (wr.drewN nq).cell? ⟨gF, i, none⟩ = some (I64 x) := ((below_drewN (Below.refl wr.heap.size wr) nq).cell (p := ⟨gF, i, none⟩) (World.block_lt_of_cell? wr _ hcx)).trans hcx
          have hcy9 : (wr.drewN nq).cell? ⟨gF, k, none⟩ = some (I64 y) := ((below_drewN (Below.refl wr.heap.size wr) nq).cell (p := ⟨gF, k, none⟩) (World.block_lt_of_cell? wr _ hcy)).trans hcy
          have hA9 := treeAt_drewN hT hAr nq
          generalize wr.drewN nq = W9 at hB9 hcx9 hcy9 hA9 ⊢
          clear hAr hct hcx hcy
          go_wp2_with fail
          go_region_held3 (fun w' => w'.cell? ⟨gF, i, none⟩ = some (I64 x) ∧ w'.cell? ⟨gF, k, none⟩ = some (I64 y))
            (first | (refine ⟨by assumption, by assumption⟩) | (refine ⟨?_, ?_⟩ <;> simpa))
            ((go_at_call 19; refine (hag _ (hA9.below (Below.refl W9.heap.size W9).drew hA9.lt_b (hA9.lt_g hT.1))).mono ?_; rintro e w7 ⟨rfl, rfl⟩))
          cases hq : (x == y || (ahead ps x y || ahead ps y x))
          · have h3 : all ≤ 3 * sm := HH hq
            have h3' : ¬ 3 * sm < all := by omega
            go_wp2
            go_roundw
            case rel => exact ⟨k + 1, by omega, by go_num, hB9.drew⟩
            case measure => simp [intOf]; omega
          · go_wp2
            go_roundw
            case rel => exact ⟨k + 1, by omega, by go_num, hB9.drew⟩
            case measure => simp [intOf]; omega
        · go_wp2
          go_roundw
          case rel => exact ⟨i + 1, by omega, by go_num, hB⟩
          case measure => simp [intOf]; omega
    · clear HTH HFB hFL
      go_wp2_with fail
      go_loopw [17] (fun uu wr => ∃ u : Nat, u ≤ ws.length ∧ uu = .int .i64 u ∧ Below w6.heap.size w6 wr) (fun uu _ => ws.length - (intOf uu).toNat)
      case atStart => exact ⟨0, by omega, rfl, hB⟩
      case round =>
        clear hB
        obtain ⟨u, hu, rfl, hB⟩ := hrel
        by_cases hult : u < ws.length
        · have hult' : (u : Int) < (ws.length : Int) := by omega
          go_wp2_with fail
          go_loopw [18, 19] (fun gb ii wr => ∃ (i : Nat) (gq : Bool), i ≤ vs.length ∧ ii = .int .i64 i ∧ gb = .bool gq ∧ Hid (gq = true ↔ ∃ a b, b < a ∧ a < i ∧ Bad ps vs u a b) ∧ Below w6.heap.size w6 wr) (fun _ ii _ => vs.length - (intOf ii).toNat)
          case atStart => exact ⟨0, false, by omega, rfl, rfl, by simp [Hid], hB⟩
          case round =>
            clear hB
            obtain ⟨i, gq, hi, rfl, rfl, HQ, hB⟩ := hrel
            by_cases hil : i < vs.length
            · have hil' : (i : Int) < (vs.length : Int) := by omega
              go_wp2_with fail
              go_loopw [18, 20] (fun gb kk wr => ∃ (k : Nat) (gq : Bool), k ≤ i ∧ kk = .int .i64 k ∧ gb = .bool gq ∧ Hid (gq = true ↔ ((∃ a b, b < a ∧ a < i ∧ Bad ps vs u a b) ∨ ∃ b, b < k ∧ Bad ps vs u i b)) ∧ Below w6.heap.size w6 wr) (fun _ kk _ => i - (intOf kk).toNat)
              case atStart => exact ⟨0, gq, by omega, rfl, rfl, by have := HQ.out; simpa [Hid] using this, hB⟩
              case round =>
                clear hB HQ
                obtain ⟨k, gq, hk, rfl, rfl, HQ, hB⟩ := hrel
                by_cases hkl : k < i
                · have hkl' : (k : Int) < (i : Int) := by omega
                  have hkN : k < vs.length := by omega
                  have hkV : (k : Int) < (vs.length : Int) := by omega
                  rcases hVL6 with rfl | ⟨gV, rfl, hcV⟩
                  · simp at hil
                  obtain ⟨x, hx⟩ : ∃ x, vs[i]? = some x := ⟨_, List.getElem?_eq_getElem hil⟩
                  obtain ⟨y, hy⟩ : ∃ y, vs[k]? = some y := ⟨_, List.getElem?_eq_getElem hkN⟩
                  have hvlt := VCells.lt hcV (by omega)
                  obtain ⟨x0, x1, x2⟩ := hcV.below hB hvlt i x hx
                  obtain ⟨y0, y1, y2⟩ := hcV.below hB hvlt k y hy
                  have hAr : TreeAt wr bt 0 gT capT ps := hA6.below hB hA6.lt_b (hA6.lt_g hT.1)
                  have HX : Hid (vs[i]? = some x) := hx
                  have HY : Hid (vs[k]? = some y) := hy
                  have step : ∀ q : Bool, (q = true ↔ x.v = u ∧ y.v = u ∧ kindI ps x y ≠ 0) → ((gq || q) = true ↔ ((∃ a b, b < a ∧ a < i ∧ Bad ps vs u a b) ∨ ∃ b, b < k + 1 ∧ Bad ps vs u i b)) := fun q hq => by
                    rw [Bool.or_eq_true, HQ.out, hq]
                    constructor
                    · rintro ((h | ⟨b, h1, h2⟩) | h)
                      · exact .inl h
                      · exact .inr ⟨b, by omega, h2⟩
                      · exact .inr ⟨k, by omega, x, y, hx, hy, h.1, h.2.1, h.2.2⟩
                    · rintro (h | ⟨b, h1, h2⟩)
                      · exact .inl (.inl h)
                      · by_cases e : b = k
                        · subst e
                          obtain ⟨x', y', h3, h4, h5⟩ := h2
                          rw [hx] at h3
                          rw [hy] at h4
                          injection h3 with h3
                          injection h4 with h4
                          subst h3 h4
                          exact .inr h5
                        · exact .inl (.inr ⟨b, by omega, h2⟩)
                  have hvlr : gV < wr.heap.size := by have := hB.size; omega
                  have HST : Hid _ := step
                  clear step hx hy hcV HQ
                  by_cases e1 : x.v = (u : Int)
                  · have q1 : (x.v == (u : Int)) = true := by simpa using e1
                    by_cases e2 : y.v = (u : Int)
                    · have q2 : (y.v == (u : Int)) = true := by simpa using e2
                      have hmy := fun W hA => kMay_at bt gT capT ps hT x y (e1.trans e2.symm) (okB_of hT hO (List.mem_of_getElem? HX.out)) (okB_of hT hO (List.mem_of_getElem? HY.out)) W hA
                      have HE1 : Hid (x.v = (u : Int) ∧ y.v = (u : Int)) := ⟨e1, e2⟩
                      obtain ⟨kd, hkd⟩ : ∃ kd, decide (kindI ps x y = 0) = kd := ⟨_, rfl⟩
                      rw [hkd] at hmy
                      have HKD : Hid (decide (kindI ps x y = 0) = kd) := hkd
                      clear e1 e2 hkd
                      go_wp2_with fail
                      go_region_held3 (fun w' => (w'.cell? ⟨gV, i * 3, none⟩ = some (I64 x.v) ∧ w'.cell? ⟨gV, i * 3 + 1, none⟩ = some (I64 x.s) ∧ w'.cell? ⟨gV, i * 3 + 2, none⟩ = some (I64 x.t)) ∧ w'.cell? ⟨gV, k * 3, none⟩ = some (I64 y.v) ∧ w'.cell? ⟨gV, k * 3 + 1, none⟩ = some (I64 y.s) ∧ w'.cell? ⟨gV, k * 3 + 2, none⟩ = some (I64 y.t))
                        (first | (exact ⟨⟨by assumption, by assumption, by assumption⟩, by assumption, by assumption, by assumption⟩) | (refine ⟨⟨?_, ?_, ?_⟩, ?_, ?_, ?_⟩ <;> simpa))
                        ((go_at_call 20; refine (hmy _ (hAr.below (Below.refl wr.heap.size wr).drew hAr.lt_b (hAr.lt_g hT.1))).mono ?_; rintro e w7 ⟨rfl, hB7⟩; have hB8 : Below wr.heap.size wr w7 := (Below.refl wr.heap.size wr).drew.trans hB7; have x0' := (hB8.cell (p := ⟨gV, i * 3, none⟩) hvlr).trans x0; have x1' := (hB8.cell (p := ⟨gV, i * 3 + 1, none⟩) hvlr).trans x1; have x2' := (hB8.cell (p := ⟨gV, i * 3 + 2, none⟩) hvlr).trans x2; have y0' := (hB8.cell (p := ⟨gV, k * 3, none⟩) hvlr).trans y0; have y1' := (hB8.cell (p := ⟨gV, k * 3 + 1, none⟩) hvlr).trans y1; have y2' := (hB8.cell (p := ⟨gV, k * 3 + 2, none⟩) hvlr).trans y2; clear hB7))
                      have hB9 : Below w6.heap.size w6 w7 := hB.trans (hB8.mono hB.size)
                      cases kd
                      · have HST' : Hid _ := HST.out true (by have := HKD.out; simp only [decide_eq_false_iff_not] at this; exact ⟨fun _ => ⟨HE1.out.1, HE1.out.2, this⟩, fun _ => rfl⟩)
                        cases gq
                        · go_wp2
                          go_roundw
                          case rel => exact ⟨k + 1, true, by omega, by go_num, rfl, HST'.out, hB9⟩
                          case measure => simp [intOf]; omega
                        · go_wp2
                          go_roundw
                          case rel => exact ⟨k + 1, true, by omega, by go_num, rfl, HST'.out, hB9⟩
                          case measure => simp [intOf]; omega
                      · have HST' : Hid _ := HST.out false (by have := HKD.out; simp only [decide_eq_true_eq] at this; exact ⟨fun h => (by cases h), fun h => absurd this h.2.2⟩)
                        cases gq
                        · go_wp2
                          go_roundw
                          case rel => exact ⟨k + 1, false, by omega, by go_num, rfl, HST'.out, hB9⟩
                          case measure => simp [intOf]; omega
                        · go_wp2
                          go_roundw
                          case rel => exact ⟨k + 1, true, by omega, by go_num, rfl, HST'.out, hB9⟩
                          case measure => simp [intOf]; omega
                    · have q2 : (y.v == (u : Int)) = false := by simpa using e2
                      have HST' : Hid ((gq || false) = true ↔ _) := HST.out false ⟨fun h => (by cases h), fun h => absurd h.2.1 e2⟩
                      rw [Bool.or_false] at HST'
                      clear e1 e2
                      go_wp2
                      go_roundw
                      case rel => exact ⟨k + 1, gq, by omega, by go_num, rfl, HST'.out, hB⟩
                      case measure => simp [intOf]; omega
                  · have q1 : (x.v == (u : Int)) = false := by simpa using e1
                    have HST' : Hid ((gq || false) = true ↔ _) := HST.out false ⟨fun h => (by cases h), fun h => absurd h.1 e1⟩
                    rw [Bool.or_false] at HST'
                    clear e1
                    go_wp2
                    go_roundw
                    case rel => exact ⟨k + 1, gq, by omega, by go_num, rfl, HST'.out, hB⟩
                    case measure => simp [intOf]; omega
                · have hki : k = i := by omega
                  have HQ' : Hid (gq = true ↔ ∃ a b, b < a ∧ a < i + 1 ∧ Bad ps vs u a b) := by
                    show _ ↔ _
                    rw [HQ.out, hki]
                    constructor
                    · rintro (⟨a, b, h1, h2, h3⟩ | ⟨b, h1, h2⟩)
                      · exact ⟨a, b, h1, by omega, h3⟩
                      · exact ⟨i, b, h1, by omega, h2⟩
                    · rintro ⟨a, b, h1, h2, h3⟩
                      by_cases e : a = i
                      · subst e; exact .inr ⟨b, h1, h3⟩
                      · exact .inl ⟨a, b, h1, by omega, h3⟩
                  clear HQ hki
                  go_wp2
                  go_roundw
                  case rel => exact ⟨i + 1, gq, by omega, by go_num, rfl, HQ'.out, hB⟩
                  case measure => simp [intOf]; omega
            · have hie : i = vs.length := by omega
              have HQ' : Hid (gq = true ↔ ∃ g ∈ G, g.v = (u : Int)) := by
                show _ ↔ _
                rw [HQ.out, HTL.out u (by omega) hult', hie]
              clear HQ hie
              go_wp2_with fail
              go_loopw [22, 23] (fun tb jj wr => ∃ (j : Nat) (tq : Bool), j ≤ G.length ∧ jj = .int .i64 j ∧ tb = .bool tq ∧ Hid (tq = true ↔ ∃ a g, a < j ∧ G[a]? = some g ∧ g.v = (u : Int)) ∧ Below w6.heap.size w6 wr) (fun _ jj _ => G.length - (intOf jj).toNat)
              case atStart => exact ⟨0, false, by omega, rfl, rfl, by simp [Hid], hB⟩
              case round =>
                clear hB
                obtain ⟨j, tq, hj, rfl, rfl, HU, hB⟩ := hrel
                by_cases hjl : j < G.length
                · have hjl' : (j : Int) < (G.length : Int) := by omega
                  rcases hGL6 with rfl | ⟨gG, rfl, hcG⟩
                  · simp at hjl
                  obtain ⟨gu, hgu⟩ : ∃ gu, G[j]? = some gu := ⟨_, List.getElem?_eq_getElem hjl⟩
                  have hc6 := hcG j gu hgu 0 _ rfl
                  have hc0 : wr.cell? ⟨gG, j * 8, none⟩ = some (I64 gu.v) := (hB.cell (p := ⟨gG, j * 8, none⟩) (World.block_lt_of_cell? w6 _ hc6)).trans hc6
                  have step : ∀ q : Bool, (q = true ↔ gu.v = (u : Int)) → ((tq || q) = true ↔ ∃ a g, a < j + 1 ∧ G[a]? = some g ∧ g.v = (u : Int)) := fun q hq => by
                    rw [Bool.or_eq_true, HU.out, hq]
                    constructor
                    · rintro (⟨a, g, h1, h2, h3⟩ | h)
                      · exact ⟨a, g, by omega, h2, h3⟩
                      · exact ⟨j, gu, by omega, hgu, h⟩
                    · rintro ⟨a, g, h1, h2, h3⟩
                      by_cases e : a = j
                      · subst e
                        rw [hgu] at h2
                        injection h2 with h2
                        subst h2
                        exact .inr h3
                      · exact .inl ⟨a, g, by omega, h2, h3⟩
                  have HST : Hid _ := step
                  clear step hgu hcG hc6 HU
                  cases tq
                  · by_cases e1 : gu.v = (u : Int)
                    · have q1 : (gu.v == (u : Int)) = true := by simpa using e1
                      have HST' : Hid _ := HST.out true ⟨fun _ => e1, fun _ => rfl⟩
                      clear e1
                      go_wp2
                      go_roundw
                      case rel => exact ⟨j + 1, true, by omega, by go_num, rfl, HST'.out, hB⟩
                      case measure => simp [intOf]; omega
                    · have q1 : (gu.v == (u : Int)) = false := by simpa using e1
                      have HST' : Hid _ := HST.out false ⟨fun h => (by cases h), fun h => absurd h e1⟩
                      clear e1
                      go_wp2
                      go_roundw
                      case rel => exact ⟨j + 1, false, by omega, by go_num, rfl, HST'.out, hB⟩
                      case measure => simp [intOf]; omega
                  · have HST' : Hid ((true || decide (gu.v = (u : Int))) = true ↔ _) := HST.out (decide (gu.v = (u : Int))) (by simp)
                    rw [Bool.true_or] at HST'
                    go_wp2
                    go_roundw
                    case rel => exact ⟨j + 1, true, by omega, by go_num, rfl, HST'.out, hB⟩
                    case measure => simp [intOf]; omega
                · have hte : tq = gq := by
                    rw [Bool.eq_iff_iff, HU.out, HQ'.out]
                    constructor
                    · rintro ⟨a, g, _, h2, h3⟩; exact ⟨g, List.mem_of_getElem? h2, h3⟩
                    · rintro ⟨g, hg, h3⟩
                      obtain ⟨a, ha⟩ := List.mem_iff_getElem?.1 hg
                      exact ⟨a, g, by have := (List.getElem?_eq_some_iff.1 ha).1; omega, ha, h3⟩
                  subst hte
                  have hbb : (tq != tq) = false := by simp
                  clear HU HQ'
                  cases tq
                  · go_wp2
                    go_roundw
                    case rel => exact ⟨u + 1, by omega, by go_num, hB⟩
                    case measure => simp [intOf]; omega
                  · go_wp2
                    go_roundw
                    case rel => exact ⟨u + 1, by omega, by go_num, hB⟩
                    case measure => simp [intOf]; omega
        · go_wp2
          go_ret
          exact ⟨rfl, hBw6.trans (hB.mono hBw6.size)⟩
end Go.Proofs.Ytgebcnnenhgkcaa
