/- The statements without the document's answer: Judged. -/
import Derived.Test.YtgebcnnenhgkcaaGreatJudgedA
namespace Go.Proofs.YtgebcnnenhgkcaaGreat
open Go.RowKit Go.Shelf

theorem finalL_length (ws ps : List Int) (vs : List Vt) : (finalL ws ps vs).length ≤ ps.length := by
  unfold finalL justL justN
  exact Nat.le_trans (List.length_filter_le _ _) (Nat.le_trans (List.length_filter_le _ _) (by simp))
/-- The proof of a final block. -/
theorem final_proof {ws ps : List Int} {vs : List Vt} (hT : Tree ps) (hO : OkV ws.length ps vs) {x er : Int} {L : List Lk} (hx : x ∈ finalL ws ps vs) (hp : ProofOf ws ps vs x er L) : er = 0 ∧ (rightB ws ps L = true ∧ lastS L = x) ∧ L.length ≤ 40 ∧ ∀ l ∈ L, l.vs.length ≤ ws.length := by
  unfold finalL at hx
  obtain ⟨h1, h2⟩ := List.mem_filter.1 hx
  have hj := mem_justL h1
  have hh : hasB ps.length x = true := by simp [hasB]; omega
  rcases hp with ⟨e, _⟩ | ⟨_, e, _⟩ | ⟨_, ej, c, ec, rfl, rfl⟩
  · rw [hh] at e; cases e
  · rcases e with e | e
    · exfalso
      unfold justL justN at h1
      rw [(List.mem_filter.1 h1).2] at e
      cases e
    · rw [e] at h2; cases h2
  · have hf := proof_fine hT hO hj.1 hj.2.1 ej ec
    obtain ⟨l, hl, hs⟩ := hf.last
    refine ⟨rfl, ⟨hf.right, ?_⟩, hf.le, fun l hl => ?_⟩
    · unfold lastS; rw [hl]; exact hs
    · rw [hf.all l hl, (votersL_perm hO.v l.s l.t).length_eq]; exact onL_length hO l.s l.t
theorem final_in {ws ps : List Int} {vs : List Vt} {x : Int} (h : x ∈ finalL ws ps vs) : 0 ≤ x ∧ x.toNat < ps.length := by
  unfold finalL at h
  have := mem_justL (List.mem_filter.1 h).1
  exact ⟨this.1, this.2.1⟩
/-- A row of numbers: what lies, and its slice. -/
theorem jlies_of {w : World} {base : Nat} {v : Value} {xs : List Int} (h : w.ownsRow base 3 1 v xs.length (xs.map I64)) : ∃ p c, v = .slice p xs.length c ∧ (xs = [] ∨ ∃ g, p = some ⟨g, 0, none⟩ ∧ ∀ j, j < xs.length → w.cell? ⟨g, j, none⟩ = some (I64 (xs[j]?.getD 0))) ∧ xs.length ≤ maxLen := by
  by_cases hp : 0 < xs.length
  · obtain ⟨g, cap, rfl, hle, hm, hc, _⟩ := row_open (row_low h) hp
    exact ⟨_, _, rfl, .inr ⟨g, rfl, hc⟩, by omega⟩
  · have e : xs = [] := List.length_eq_zero_iff.1 (by omega)
    subst e
    rcases h.2 with ⟨rfl, hn⟩ | ⟨g, cap, cur, rfl, _⟩
    · exact ⟨none, 0, rfl, .inl rfl, Nat.zero_le _⟩
    · exact ⟨_, _, rfl, .inl rfl, Nat.zero_le _⟩
theorem jguRow_at {gs : List Gu} {j : Nat} {g : Gu} (h : gs[j]? = some g) {i : Nat} {u : Value} (hu : (guCells g)[i]? = some u) : (guRow gs)[j * 8 + i]? = some u := by
  induction gs generalizing j with
  | nil => simp at h
  | cons a r ih =>
    have e : guRow (a :: r) = guCells a ++ guRow r := by simp [guRow]
    have hi : i < 8 := by have := (List.getElem?_eq_some_iff.1 hu).1; simpa [guCells] using this
    rw [e]
    cases j with
    | zero =>
      simp at h; subst h
      rw [List.getElem?_append_left (by simp [guCells]; omega)]; simpa using hu
    | succ j =>
      rw [List.getElem?_append_right (by simp [guCells]; omega)]
      have := ih (j := j) (by simpa using h)
      simp only [guCells, List.length_cons, List.length_nil]
      rw [show (j + 1) * 8 + i - (0 + 1 + 1 + 1 + 1 + 1 + 1 + 1 + 1) = j * 8 + i by omega]
      exact this
theorem jglies_of {w : World} {base : Nat} {p : Option Addr} {c : Nat} {gs : List Gu} (h : w.ownsRow base 84 8 (.slice p gs.length c) gs.length (guRow gs)) : GLies w p gs := by
  have h' := h
  rcases h.2 with ⟨_, hn⟩ | ⟨g, cap, cur, he, _, hg, hle, hm, hs, ht⟩
  · exact .inl (List.length_eq_zero_iff.1 hn)
  · simp only [Value.slice.injEq, true_and] at he
    obtain ⟨rfl, rfl⟩ := he
    refine .inr ⟨g, rfl, fun j gu hj i u hu => ?_⟩
    have hi : i < 8 := by have := (List.getElem?_eq_some_iff.1 hu).1; simpa [guCells] using this
    have hj' : j < gs.length := (List.getElem?_eq_some_iff.1 hj).1
    rw [(row_low h').cellAt _ (by omega)]
    exact jguRow_at hj hu
theorem jvlies_of {w : World} {base : Nat} {v : Value} {vs : List Vt} (h : w.ownsRow base 47 3 v vs.length (vtRow vs)) (hp : 0 < vs.length) : ∃ g c, v = .slice (some ⟨g, 0, none⟩) vs.length c ∧ VCells w g vs := by
  obtain ⟨g, cap, rfl, _, _, hc, _⟩ := vrow_open (row_low h) hp
  exact ⟨g, cap, rfl, hc⟩
theorem vcells_news {w : World} {g : Nat} {vs : List Vt} (h : VCells w g vs) : ∀ j u, (vtRow vs)[j]? = some u → w.cell? ((⟨g, 0, none⟩ : Addr).add j) = some u := fun j u hj => by
  rw [add_none, Nat.zero_add]
  have hjl := (List.getElem?_eq_some_iff.1 hj).1
  rw [vtRow_length] at hjl
  obtain ⟨x, hx⟩ : ∃ x, vs[j / 3]? = some x := ⟨_, List.getElem?_eq_getElem (by omega)⟩
  obtain ⟨a0, a1, a2⟩ := vtRow_at vs (j / 3) x hx
  obtain ⟨c0, c1, c2⟩ := h (j / 3) x hx
  have e3 : j = 3 * (j / 3) + j % 3 := by omega
  have hm : j % 3 = 0 ∨ j % 3 = 1 ∨ j % 3 = 2 := by omega
  have hcm : 3 * (j / 3) = j / 3 * 3 := Nat.mul_comm _ _
  rcases hm with h3 | h3 | h3
  · rw [e3, h3, Nat.add_zero] at hj ⊢
    rw [a0] at hj; rw [hcm, c0]; exact hj
  · rw [e3, h3] at hj ⊢
    rw [a1] at hj; rw [hcm, c1]; exact hj
  · rw [e3, h3] at hj ⊢
    rw [a2] at hj; rw [hcm, c2]; exact hj
theorem vlies_on {w w' : World} {g : Nat} {vs : List Vt} (h : VCells w g vs) (hp : 0 < vs.length) (hB : Below w.heap.size w w') : VLies w' (some ⟨g, 0, none⟩) vs := .inr ⟨g, rfl, h.below hB (h.lt hp)⟩
theorem glies_on {w w' : World} {p : Option Addr} {G : List Gu} (h : GLies w p G) (hB : Below w.heap.size w w') : GLies w' p G := by
  rcases h with h | ⟨g, e, h⟩
  · exact .inl h
  · exact .inr ⟨g, e, fun j gu hj i u hu => by
      have h1 := h j gu hj i u hu
      exact (hB.cell (p := ⟨g, j * 8 + i, none⟩) (World.block_lt_of_cell? w _ h1)).trans h1⟩
theorem judgeE_right {ws ps : List Int} {L M : List Lk} (hok : okW ws = true) (hT : Tree ps) (h1 : rightB ws ps L = true) (h2 : rightB ws ps M = true) : judgeE ws ps L M = if agreeB ps (lastS L) (lastS M) = true then 10 else 0 := by
  unfold judgeE suitE
  rw [hok, treeB_iff.2 hT, h1, h2]
  simp
/-- What the guilty of two right proofs are, beside the votes that the proofs show. -/
theorem judgeL_gu {ws ps : List Int} {L M : List Lk} {g : Gu} (h : g ∈ judgeL ws.length ps L M) : GuOf ws.length ps (byL L ++ byL M) g ∧ g.a ∈ byL L ∧ g.b ∈ byL M := by
  have hj := judgeL_of h
  obtain ⟨l, hl, hlv, hla⟩ := hj.a
  obtain ⟨m, hm, hmv, hmb⟩ := hj.b
  have ha : g.a ∈ byL L := mem_byL.2 ⟨l, hl, by rw [hla], by rw [hla], by rw [hla]; exact hlv⟩
  have hb : g.b ∈ byL M := mem_byL.2 ⟨m, hm, by rw [hmb], by rw [hmb], by rw [hmb]; exact hmv⟩
  exact ⟨⟨hj.v0, hj.v1, List.mem_append_left _ ha, List.mem_append_right _ hb, by rw [hla], by rw [hmb], hj.k⟩, ha, hb⟩
theorem byL_ok {ws ps : List Int} (hT : Tree ps) {L : List Lk} (h : rightB ws ps L = true) : ∀ y ∈ byL L, OkB ps y := fun y hy => by
  obtain ⟨l, hl, h1, h2, _⟩ := mem_byL.1 hy
  have := rt_okB hT h hl y.v
  obtain ⟨v, s, t⟩ := y
  simp only at h1 h2
  rw [h1, h2]
  exact this
/-- A vote list with another behind it: what lies. -/
theorem OkB.st {ps : List Int} {y : Vt} (h : OkB ps y) : (0 ≤ y.s ∧ y.s < ps.length) ∧ 0 ≤ y.t ∧ y.t < ps.length := by
  obtain ⟨a, b, c, d⟩ := h
  exact ⟨⟨a, by omega⟩, c, by omega⟩

set_option maxRecDepth 100000 in
set_option maxHeartbeats 8000000 in
theorem kJudged_at (p q : Option Addr) (c d : Nat) (raw votes : List Int) (a0 b0 : Int) (w : World) (hx : IntsAt w p raw) (hy : IntsAt w q votes) (hq : ∀ a, q = some a → a.block < w.heap.size) (hl : raw.length ≤ maxLen) (hl2 : votes.length ≤ maxLen)
    (hb : ∀ r ∈ raw, -9223372036854775808 ≤ r ∧ r ≤ 9223372036854775807) (hb2 : ∀ r ∈ votes, -9223372036854775808 ≤ r ∧ r ≤ 9223372036854775807) (ha0 : -9223372036854775808 ≤ a0 ∧ a0 ≤ 9223372036854775807) (hb0 : -9223372036854775808 ≤ b0 ∧ b0 ≤ 9223372036854775807) :
    Calls Tryz.prog 7 #[.slice p raw.length c, .slice q votes.length d, .int .i64 a0, .int .i64 b0] w fun e w' => e = .returned (.bool true) ∧ Below w.heap.size w w' := by
  go_enter Tryz.func7, Tryz.ntmps7
  go_wp2_with fail
  refine (weights_at p c raw w hx hl hb).mono ?_
  rintro e w1 ⟨⟨vw, rfl, hrw⟩, hB1⟩
  have hok := wsOf_ok raw
  obtain ⟨ws, hws⟩ : ∃ ws, wsOf raw = ws := ⟨_, rfl⟩
  rw [hws] at hrw hok ⊢
  clear hws
  have hW := okWs_of hok
  go_wp2_with fail
  refine (opened_at vw ws w1 (row_low hrw) hok).mono ?_
  rintro e w2 ⟨b, S0, wv, pv, rfl, hC2, hB2, hS2⟩
  have hz1 := hB1.size
  have hz2 := hB2.size
  have hBw2 : Below w.heap.size w w2 := hB1.trans (hB2.mono hz1)
  have hy2 : IntsAt w2 q votes := by
    rcases hy with e | ⟨g, o, e, hc⟩
    · exact .inl e
    · exact .inr ⟨g, o, e, fun j hj => (hBw2.cell (p := ⟨g, o + j, none⟩) (World.block_lt_of_cell? w _ (hc j hj))).trans (hc j hj)⟩
  obtain ⟨gw, capw, rfl, _, _, hcw, _⟩ := row_open (row_low hrw) hW.pos
  have hgw := (hrw.lt gw rfl)
  go_wp2_with fail
  refine (voted_at b S0 ws wv pv q d votes w2 hC2 hW hy2 (fun a ha hs => by have := hS2 _ hs; have := hq a ha; omega) hl2 hb2).mono ?_
  rintro e w3 ⟨bt, S, ps, vs, pv', vv', gT, capT, lv, rfl, hK, hT, hO, hvl⟩
  have hBw3 : Below w.heap.size w w3 := hBw2.trans (hK.chg.below hBw2.size (fun k hk hs => by have := hS2 _ hs; omega))
  have hSw : ∀ k, S k → w.heap.size ≤ k := fun k hk => (hK.sub k hk).elim (fun h => by have := hS2 _ h; omega) (fun h => by have := hBw2.size; omega)
  have hngw : ¬ S gw := fun hs => (hK.sub gw hs).elim (fun h => by have := hS2 _ h; omega) (fun h => by omega)
  have hngw0 : ¬ S0 gw := fun hs => by have := hS2 _ hs; omega
  have hcw3 : ∀ j, j < ws.length → w3.cell? ⟨gw, j, none⟩ = some (I64 (ws[j]?.getD 0)) := fun j hj => hK.chg.cell ((hB2.cell (p := ⟨gw, j, none⟩) hgw.2).trans (hcw j hj)) hngw0
  clear hC2 hB2 hy2 hcw hx hy hq hb hb2 hl hl2 hrw hB1
  go_wp2_with fail
  refine (final_at b S ws ps vs wv pv' vv' w3 hK.court hT hW hvl hO).mono ?_
  rintro e w4 ⟨⟨vF, rfl, hrF⟩, hC4, hc4⟩
  have hK4 := hK.move hC4 hc4 (fun _ hk => .inl hk)
  have hBw4 : Below w.heap.size w w4 := hBw3.trans (hc4.below hBw3.size (fun k hk hs => by have := hSw _ hs; omega))
  have hcw4 : ∀ j, j < ws.length → w4.cell? ⟨gw, j, none⟩ = some (I64 (ws[j]?.getD 0)) := fun j hj => hc4.cell (hcw3 j hj) hngw
  have hFl := finalL_length ws ps vs
  have hT2 := hT.2.1
  obtain ⟨F, hF⟩ : ∃ F, finalL ws ps vs = F := ⟨_, rfl⟩
  rw [hF] at hrF hFl
  have HF : Hid (finalL ws ps vs = F) := hF
  clear hF hC4 hc4 hK hcw3
  obtain ⟨pF, cF, rfl, hFL, _⟩ := jlies_of hrF
  by_cases h0 : F.length = 0
  · have h0' : ((F.length : Int) == 0) = true := by rw [h0]; rfl
    go_wp2
    go_ret
    exact ⟨rfl, hBw4⟩
  have h0' : ((F.length : Int) == 0) = false := beq_eq_false_iff_ne.2 (by omega)
  obtain ⟨k1, hk1⟩ : ∃ k1 : Nat, pickF a0 F.length = k1 := ⟨(pickF a0 F.length).toNat, by have := pickF_bounds a0 (n := (F.length : Int)) (by omega); omega⟩
  obtain ⟨k2, hk2⟩ : ∃ k2 : Nat, pickF b0 F.length = k2 := ⟨(pickF b0 F.length).toNat, by have := pickF_bounds b0 (n := (F.length : Int)) (by omega); omega⟩
  have hl1 : k1 < F.length := by have := pickF_bounds a0 (n := (F.length : Int)) (by omega); omega
  have hl2 : k2 < F.length := by have := pickF_bounds b0 (n := (F.length : Int)) (by omega); omega
  have hp1 := fun W => pick_at a0 F.length W (by omega) (by omega) ha0
  have hp2 := fun W => pick_at b0 F.length W (by omega) (by omega) hb0
  rw [hk1] at hp1
  rw [hk2] at hp2
  clear hk1 hk2
  have hl1' : (k1 : Int) < (F.length : Int) := by omega
  have hl2' : (k2 : Int) < (F.length : Int) := by omega
  rcases hFL with rfl | ⟨gF, rfl, hcF⟩
  · simp at h0
  obtain ⟨x, hx⟩ : ∃ x, F[k1]? = some x := ⟨_, List.getElem?_eq_getElem hl1⟩
  obtain ⟨y, hy⟩ : ∃ y, F[k2]? = some y := ⟨_, List.getElem?_eq_getElem hl2⟩
  have hcx : w4.cell? ⟨gF, k1, none⟩ = some (I64 x) := by have h1 := hcF k1 hl1; rw [hx] at h1; exact h1
  have hcy : w4.cell? ⟨gF, k2, none⟩ = some (I64 y) := by have h1 := hcF k2 hl2; rw [hy] at h1; exact h1
  have HX : Hid (x ∈ finalL ws ps vs) := by show _ ∈ _; rw [HF.out]; exact List.mem_of_getElem? hx
  have HY : Hid (y ∈ finalL ws ps vs) := by show _ ∈ _; rw [HF.out]; exact List.mem_of_getElem? hy
  have hbx := final_in HX.out
  have hby := final_in HY.out
  clear hx hy hcF
  go_wp2_with fail
  refine (hp1 _).mono ?_
  rintro e w' ⟨rfl, hw'⟩
  subst hw'
  go_wp2_with fail
  refine (hp2 _).mono ?_
  rintro e w' ⟨rfl, hw'⟩
  subst hw'
  clear hp1 hp2
  have hct := hK4.c0
  have b1 : ¬ x < 0 := by omega
  have b2 : ¬ x ≥ (ps.length : Int) := by omega
  have b3 : ¬ y < 0 := by omega
  have b4 : ¬ y ≥ (ps.length : Int) := by omega
  have d1 : decide (x < 0) = false := decide_eq_false b1
  have d2 : decide (x ≥ (ps.length : Int)) = false := decide_eq_false b2
  have d3 : decide (y < 0) = false := decide_eq_false b3
  have d4 : decide (y ≥ (ps.length : Int)) = false := decide_eq_false b4
  have hpr1 := proof_at b S ws ps vs wv pv' vv' x w' hK4.court hT hW hvl hO
  go_wp2_with fail
  refine hpr1.mono ?_
  rintro e w5 ⟨⟨v1, X, er1, rfl, hLX, hP1⟩, hC5, hc5⟩
  clear hpr1 hct hcx hcy
  have hK5 := hK4.move hC5 hc5 (fun _ hk => .inl hk)
  have hBw5 : Below w.heap.size w w5 := hBw4.trans (hc5.below hBw4.size (fun k hk hs => by have := hSw _ hs; omega))
  have hcw5 : ∀ j, j < ws.length → w5.cell? ⟨gw, j, none⟩ = some (I64 (ws[j]?.getD 0)) := fun j hj => hc5.cell (hcw4 j hj) hngw
  have hS5 : ∀ k, S k → k < w'.heap.size := fun k hk => hK4.court.lt k hk
  obtain ⟨rfl, hR1, hXl, hXv⟩ := final_proof hT hO HX.out hP1
  clear hP1 hC5 hc5 hcw4
  have hpr2 := proof_at b S ws ps vs wv pv' vv' y w5 hK5.court hT hW hvl hO
  go_wp2_with fail
  refine hpr2.mono ?_
  rintro e w6 ⟨⟨v2, Y, er2, rfl, hLY, hP2⟩, hC6, hc6⟩
  clear hpr2
  have hK6 := hK5.move hC6 hc6 (fun _ hk => .inl hk)
  have hBw6 : Below w.heap.size w w6 := hBw5.trans (hc6.below hBw5.size (fun k hk hs => by have := hSw _ hs; omega))
  have hcw6 : ∀ j, j < ws.length → w6.cell? ⟨gw, j, none⟩ = some (I64 (ws[j]?.getD 0)) := fun j hj => hc6.cell (hcw5 j hj) hngw
  obtain ⟨rfl, hR2, hYl, hYv⟩ := final_proof hT hO HY.out hP2
  have hLX6 := hLX.kept hc6 (fun k hk hs => by have := (hLX.row.lt k hk).1; have := hS5 k hs; omega) (fun z hz k hk hs => by have := ((hLX.each z hz).lt k hk).1; have := hS5 k hs; omega)
  clear hP2 hC6 hc6 hcw5 hLX
  obtain ⟨p1, c1, rfl, hkX, hmX⟩ := hLX6.lk
  obtain ⟨p2, c2, rfl, hkY, hmY⟩ := hLY.lk
  have hA6 := hK6.treeAt hT.1
  have hwm : ws.length ≤ maxLen := by have := hW.le; unfold maxLen; omega
  have hpm : ps.length ≤ maxLen := by unfold maxLen; omega
  have hjd := judge_at gw capw (some ⟨gT, 0, none⟩) p1 p2 capT c1 c2 ws ps X Y w6 hcw6 hwm (.inr ⟨gT, 0, rfl, fun j hj => by rw [Nat.zero_add]; exact hA6.cs j hj⟩) hpm hkX hkY hmX hmY
  obtain ⟨L, hL⟩ : ∃ L, X.map (fun z => z.1) = L := ⟨_, rfl⟩
  obtain ⟨M, hM⟩ : ∃ M, Y.map (fun z => z.1) = M := ⟨_, rfl⟩
  have hXb : ∀ z ∈ X, ((0 ≤ z.1.s ∧ z.1.s < ps.length) ∧ 0 ≤ z.1.t ∧ z.1.t < ps.length) := fun z hz => (rt_okB hT hR1.1 (List.mem_map.2 ⟨z, hz, rfl⟩) 0).st
  have hYb : ∀ z ∈ Y, ((0 ≤ z.1.s ∧ z.1.s < ps.length) ∧ 0 ≤ z.1.t ∧ z.1.t < ps.length) := fun z hz => (rt_okB hT hR2.1 (List.mem_map.2 ⟨z, hz, rfl⟩) 0).st
  have hw12 := hW.le
  have hXn : X.length ≤ 40 := by simpa using hXl
  have hYn : Y.length ≤ 40 := by simpa using hYl
  have hXv' : ∀ z ∈ X, z.1.vs.length ≤ 12 := fun z hz => Nat.le_trans (hXv z.1 (List.mem_map.2 ⟨z, hz, rfl⟩)) hw12
  have hYv' : ∀ z ∈ Y, z.1.vs.length ≤ 12 := fun z hz => Nat.le_trans (hYv z.1 (List.mem_map.2 ⟨z, hz, rfl⟩)) hw12
  have hby1 := fun W h => by_at p1 c1 X W h hXn hXv'
  have hby2 := fun W h => by_at p2 c2 Y W h hYn hYv'
  have hL1 : (byL (X.map (fun z => z.1))).length ≤ 480 := Nat.le_trans (byL_length (fun l hl => Nat.le_trans (hXv l hl) hw12)) (by simp; omega)
  have hL2 : (byL (Y.map (fun z => z.1))).length ≤ 480 := Nat.le_trans (byL_length (fun l hl => Nat.le_trans (hYv l hl) hw12)) (by simp; omega)
  have hE := judgeE_right hok hT hR1.1 hR2.1
  rw [hR1.2, hR2.2] at hE
  have HR : Hid ((rightB ws ps L = true ∧ lastS L = x) ∧ rightB ws ps M = true ∧ lastS M = y) := by rw [← hL, ← hM]; exact ⟨hR1, hR2⟩
  rw [hL, hM] at hjd hE
  rw [hL] at hby1 hL1
  rw [hM] at hby2 hL2
  clear hL hM hR1 hR2 hXl hYl hXv hYv hXv' hYv'
  have HB1 : Hid _ := hby1
  have HB2 : Hid _ := hby2
  have HH1 : Hid (∀ z ∈ X, ((0 ≤ z.1.s ∧ z.1.s < ps.length) ∧ 0 ≤ z.1.t ∧ z.1.t < ps.length)) := hXb
  have HH2 : Hid (∀ z ∈ Y, ((0 ≤ z.1.s ∧ z.1.s < ps.length) ∧ 0 ≤ z.1.t ∧ z.1.t < ps.length)) := hYb
  clear hby1 hby2 hXb hYb
  obtain ⟨E, hEE⟩ : ∃ E, judgeE ws ps L M = E := ⟨_, rfl⟩
  obtain ⟨G, hGG⟩ : ∃ G, judgeG ws ps L M = G := ⟨_, rfl⟩
  obtain ⟨kk, hkk⟩ : ∃ kk, guW ws G = kk := ⟨_, rfl⟩
  rw [hEE, hGG, hkk] at hjd
  rw [hEE] at hE
  have HE : Hid (E = if agreeB ps x y = true then 10 else 0) := hE
  have HG : Hid (judgeG ws ps L M = G ∧ judgeE ws ps L M = E ∧ guW ws G = kk) := ⟨hGG, hEE, hkk⟩
  have hagr : ∀ W, TreeAt W bt 0 gT capT ps → Calls Tryz.prog 27 #[.pointer (some ⟨bt, 0, none⟩), .int .i64 x, .int .i64 y] W fun e w' => e = .returned (.bool (agreeB ps x y)) ∧ w' = W := fun W h => kAgree_at bt gT capT ps hT x y hbx.1 hbx.2 hby.1 hby.2 W h
  have HAG : Hid _ := hagr
  clear hE hEE hGG hkk hagr
  have hct := hK6.c0
  go_wp2_with fail
  refine hjd.mono ?_
  rintro e w7 ⟨⟨v, rfl, hrG⟩, hB7⟩
  clear hjd hct
  obtain ⟨pG, cG, hvG⟩ := row_slice hrG
  subst hvG
  obtain ⟨W8, hW8⟩ : ∃ W8, w7.alloc (.cells #[.slice pG G.length cG, I64 kk] 74) = W8 := ⟨_, rfl⟩
  obtain ⟨pp, hpp⟩ : ∃ pp, w7.heap.size = pp := ⟨_, rfl⟩
  have hB8 : Below w7.heap.size w7 W8 := by rw [← hW8]; exact (Below.refl _ w7).alloc (Nat.le_refl _) _
  have hv8 : W8.heap[pp]? = some (.cells #[.slice pG G.length cG, I64 kk] 74 (0, 0)) := by rw [← hW8, ← hpp]; exact heap_alloc_new w7 _
  have hB68 : Below w6.heap.size w6 W8 := hB7.trans (hB8.mono hB7.size)
  have hBw8 : Below w.heap.size w W8 := hBw6.trans (hB68.mono hBw6.size)
  have hA8 : TreeAt W8 bt 0 gT capT ps := hA6.below hB68 hA6.lt_b (hA6.lt_g hT.1)
  have hk8X := hkX.below hB68
  have hk8Y := hkY.below hB68
  have hcw8 : ∀ j, j < ws.length → W8.cell? ⟨gw, j, none⟩ = some (I64 (ws[j]?.getD 0)) := fun j hj => (hB68.cell (p := ⟨gw, j, none⟩) (World.block_lt_of_cell? w6 _ (hcw6 j hj))).trans (hcw6 j hj)
  have hGL8 := jglies_of (row_below hrG hB8 (Nat.le_refl _))
  have z80 : W8.cell? ⟨pp, 0, none⟩ = some (.slice pG G.length cG) := by rw [cell_of_heap hv8]; rfl
  have z81 : W8.cell? ⟨pp, 1, none⟩ = some (I64 kk) := by rw [cell_of_heap hv8]; rfl
  have hh1 := kHas_at bt gT capT c1 p1 ps X hT W8 hA8 hk8X hmX HH1.out
  clear hB8 hB68 hv8 hcw6 hkX hkY hrG hB7 hK6 hA6 hLX6 hLY hBw6 hK5 hK4
  go_wp2_with fail
  refine hh1.mono ?_
  rintro e W9 ⟨rfl, hB9⟩
  clear hh1 hW8 hpp
  have hh2 := kHas_at bt gT capT c2 p2 ps Y hT W9 (hA8.below hB9 hA8.lt_b (hA8.lt_g hT.1)) (hk8Y.below hB9) hmY HH2.out
  go_wp2_with fail
  refine hh2.mono ?_
  rintro e W10 ⟨rfl, hB10⟩
  clear hh2
  have hB8a : Below W8.heap.size W8 W10 := hB9.trans (hB10.mono hB9.size)
  clear hB9 hB10
  go_wp2_with fail
  refine (HAG.out W10 (hA8.below hB8a hA8.lt_b (hA8.lt_g hT.1))).mono ?_
  rintro e W' ⟨rfl, hW'⟩
  subst hW'
  clear HAG
  have hpl : pp < W8.heap.size := World.block_lt_of_cell? W8 _ z80
  by_cases hag : agreeB ps x y = true
  · rw [hag]
    have hE10 : E = 10 := by rw [HE.out, hag]; rfl
    have hG0 : G = [] := by
      rw [← HG.out.1]
      unfold judgeG
      rw [if_neg (by rw [HG.out.2.1, hE10]; decide)]
    have hk0 : kk = 0 := by rw [← HG.out.2.2, hG0]; rfl
    subst hE10 hG0 hk0
    have u0 : W'.cell? ⟨pp, 0, none⟩ = some (.slice pG 0 cG) := (hB8a.cell (p := ⟨pp, 0, none⟩) hpl).trans z80
    have u1 : W'.cell? ⟨pp, 1, none⟩ = some (I64 0) := (hB8a.cell (p := ⟨pp, 1, none⟩) hpl).trans z81
    clear z80 z81
    go_wp2
    go_ret
    exact ⟨rfl, hBw8.trans (hB8a.mono hBw8.size)⟩
  rw [Bool.not_eq_true] at hag
  rw [hag]
  have hE0 : E = 0 := by rw [HE.out, hag]; rfl
  subst hE0
  have hGJ : G = judgeL ws.length ps L M := by
    rw [← HG.out.1]
    unfold judgeG
    rw [if_pos HG.out.2.1]
  have hR := HR.out
  have hthird : sumI ws ≤ 3 * kk := by
    have h9 := judge_third hT hW hR.1.1 hR.2.1
    rw [hR.1.2, hR.2.2] at h9
    have ha := hag
    unfold agreeB at ha
    simp only [Bool.or_eq_false_iff, beq_eq_false_iff_ne] at ha
    have h8 := h9 ha.1 (fun h => by rw [← ahead_mem, ha.2.1] at h; cases h) (fun h => by rw [← ahead_mem, ha.2.2] at h; cases h)
    rw [← hGJ] at h8
    rw [← HG.out.2.2]
    exact h8
  have hGl : G.length ≤ 12 := by rw [hGJ]; exact Nat.le_trans (judgeL_length _ _ _ _) hw12
  have hGof : ∀ gu ∈ G, GuOf ws.length ps (byL L ++ byL M) gu ∧ gu.a ∈ byL L ∧ gu.b ∈ byL M := fun gu hgu => judgeL_gu (by rw [← hGJ]; exact hgu)
  have hGup : G.Pairwise (fun a b => a.v < b.v) := by rw [hGJ]; exact judgeL_up _ _ _ _
  have hsum0 : 0 < sumI ws := sumI_pos (fun z hz => (hW.at' z hz).1) hW.pos
  have hGne : ∃ gu, gu ∈ G := by
    cases hc : G with
    | nil =>
      exfalso
      have : kk = 0 := by rw [← HG.out.2.2, hc]; rfl
      omega
    | cons g r => exact ⟨g, List.mem_cons_self ..⟩
  obtain ⟨gu0, hgu0⟩ := hGne
  have hAp : 0 < (byL L).length := List.length_pos_of_mem (hGof gu0 hgu0).2.1
  have hBp : 0 < (byL M).length := List.length_pos_of_mem (hGof gu0 hgu0).2.2
  have hkkb : 0 ≤ kk ∧ kk ≤ 1200 := by
    rw [← HG.out.2.2]
    unfold guW
    exact wSum_le hW (fun v hv => by
      obtain ⟨gu, hgu, rfl⟩ := List.mem_map.1 hv
      exact ⟨(hGof gu hgu).1.v0, (hGof gu hgu).1.v1⟩) (by simpa using hGl)
  have hokA : ∀ z ∈ byL L ++ byL M, OkB ps z := fun z hz => (List.mem_append.1 hz).elim (byL_ok hT hR.1.1 z) (byL_ok hT hR.2.1 z)
  have hkks : wSum ws (G.map (fun g => g.v)) = kk := HG.out.2.2
  have HNM : Hid (∀ (gV cV : Nat) (W : World), TreeAt W bt 0 gT capT ps → GLies W pG G → VLies W (some ⟨gV, 0, none⟩) (byL L ++ byL M) → (∀ j, j < ws.length → W.cell? ⟨gw, j, none⟩ = some (I64 (ws[j]?.getD 0))) →
      Calls Tryz.prog 29 #[.pointer (some ⟨bt, 0, none⟩), .slice pG G.length cG, .slice (some ⟨gV, 0, none⟩) ((byL L).length + (byL M).length) cV, .slice (some ⟨gw, 0, none⟩) ws.length capw] W fun e w' => e = .returned (.tuple #[.int .i64 kk, .bool true]) ∧ Below W.heap.size W w') := fun gV cV W h1 h2 h3 h4 => by
    have h9 := named_at bt gT capT cG cV gw capw pG (some ⟨gV, 0, none⟩) ps ws (byL L ++ byL M) G hT hokA hW (by rw [List.length_append]; omega) hGl (fun gu hgu => (hGof gu hgu).1) hGup W h1 h2 h3 h4
    rw [hkks, List.length_append] at h9
    exact h9
  have HGO : Hid (∀ gu ∈ G, gu.a ∈ byL L ∧ gu.b ∈ byL M) := fun gu hgu => (hGof gu hgu).2
  clear hGof hGup hokA hkks hgu0 hR hGJ HG HE hag hsum0
  obtain ⟨A, hA'⟩ : ∃ A, byL L = A := ⟨_, rfl⟩
  obtain ⟨B, hB'⟩ : ∃ B, byL M = B := ⟨_, rfl⟩
  rw [hA'] at HB1 hL1 hAp HNM HGO
  rw [hB'] at HB2 hL2 hBp HNM HGO
  clear hA' hB'
  go_wp2_with fail
  refine (HB1.out W' (hk8X.below hB8a)).mono ?_
  rintro e W11 ⟨⟨v11, rfl, hr11⟩, hB11⟩
  have hB8b : Below W8.heap.size W8 W11 := hB8a.trans (hB11.mono hB8a.size)
  obtain ⟨gA, cA, rfl, hcA⟩ := jvlies_of hr11 hAp
  clear hB8a hB11 hr11
  go_wp2_with fail
  refine (HB2.out W11 (hk8Y.below hB8b)).mono ?_
  rintro e W12 ⟨⟨v12, rfl, hr12⟩, hB12⟩
  have hB8c : Below W8.heap.size W8 W12 := hB8b.trans (hB12.mono hB8b.size)
  obtain ⟨gB, cB, rfl, hcB⟩ := jvlies_of hr12 hBp
  have hcA12 := hcA.below hB12 (hcA.lt hAp)
  clear hB8b hB12 hr12 hcA
  have u0 : W12.cell? ⟨pp, 0, none⟩ = some (.slice pG G.length cG) := (hB8c.cell (p := ⟨pp, 0, none⟩) hpl).trans z80
  go_wp2_with fail
  refine wp_region_held_drew (S := fun w' => w'.cell? ⟨pp, 0, none⟩ = some (.slice pG G.length cG)) (by kernel_rfl) u0 (fun hHeld => ?_)
  refine takeH (i := 0) (v := ?vv1) rfl (by kernel_rfl) (by kernel_rfl) (by kernel_rfl) (fun _ _ _ h => h) (Or.inl ⟨by rfl, ?hy1⟩) (by assumption) ?rest1
  case hy1 => (intro w hSw; (try dsimp only at hSw); go_simp; try with_reducible rfl)
  try simp only [Act.put, List.setIfInBounds_toArray, List.set_cons_zero, List.set_cons_succ]
  refine takeH (i := 1) (v := ?vv2) rfl (by kernel_rfl) (by kernel_rfl) (by kernel_rfl) (fun _ _ _ h => h) (Or.inl ⟨by rfl, ?hy2⟩) (by assumption) ?rest2
  case hy2 => (intro w hSw; (try dsimp only at hSw); go_simp; try with_reducible rfl)
  try simp only [Act.put, List.setIfInBounds_toArray, List.set_cons_zero, List.set_cons_succ]
  refine takeH (i := 2) (v := ?vv3) rfl (by kernel_rfl) (by kernel_rfl) (by kernel_rfl) (fun _ _ _ h => h) (Or.inl ⟨by rfl, ?hy3⟩) (by assumption) ?rest3
  case hy3 => (intro w hSw; (try dsimp only at hSw); go_simp; try with_reducible rfl)
  try simp only [Act.put, List.setIfInBounds_toArray, List.set_cons_zero, List.set_cons_succ]
  refine takeH (i := 3) (v := ?vv4) rfl (by kernel_rfl) (by kernel_rfl) (by kernel_rfl) (fun _ _ _ h => h) (Or.inl ⟨by rfl, ?hy4⟩) (by assumption) ?rest4
  case hy4 => (intro w hSw; (try dsimp only at hSw); go_simp; try with_reducible rfl)
  try simp only [Act.put, List.setIfInBounds_toArray, List.set_cons_zero, List.set_cons_succ]
  refine takeH (i := 5) (v := ?vv5) rfl (by kernel_rfl) (by kernel_rfl) (by kernel_rfl) (fun _ _ _ h => h) (Or.inl ⟨by rfl, ?hy5⟩) (by assumption) ?rest5
  case hy5 => (intro w hSw; (try dsimp only at hSw); go_simp; try with_reducible rfl)
  try simp only [Act.put, List.setIfInBounds_toArray, List.set_cons_zero, List.set_cons_succ]
  refine takeH (i := 7) (v := ?vv6) rfl (by kernel_rfl) (by kernel_rfl) (by kernel_rfl) (fun _ _ _ h => h) (Or.inl ⟨by rfl, ?hy6⟩) (by assumption) ?rest6
  case hy6 => (intro w hSw; (try dsimp only at hSw); go_simp; try with_reducible rfl)
  try simp only [Act.put, List.setIfInBounds_toArray, List.set_cons_zero, List.set_cons_succ]
  refine doneH (i := 4) rfl (by kernel_rfl) (by rfl) (fun K hK => ?_)
  have HK : Hid _ := hK
  clear hK
  go_simp
  refine (HB1.out W12.drew ((hk8X.below hB8c).below (Below.refl _ W12).drew)).mono ?_
  rintro e W13 ⟨⟨v13, rfl, hr13⟩, hB13⟩
  have hB1213 : Below W12.heap.size W12 W13 := (Below.refl _ W12).drew.trans hB13
  obtain ⟨p13, c13, hv13⟩ := row_slice hr13
  subst hv13
  have hr13' : W13.ownsRow W12.heap.size 47 3 (.slice p13 A.length c13) A.length (vtRow A) := hr13
  have hcB13 := hcB.below hB1213 (hcB.lt hBp)
  have e1 : W13.cell? ⟨pp, 0, none⟩ = some (.slice pG G.length cG) := (hB1213.cell (p := ⟨pp, 0, none⟩) (World.block_lt_of_cell? W12 _ u0)).trans u0
  clear hHeld hr13 hB13
  refine HK.out _ _ e1 (fun hHeld => ?_)
  clear HK K
  try simp only [Act.put, List.setIfInBounds_toArray, List.set_cons_zero, List.set_cons_succ]
  obtain ⟨i0, hi, hz0, hz1, hz2⟩ := info_parts info_vote
  have hnews := vcells_news hcB13
  have hone : ∀ u ∈ vtRow B, u.oneCell' = true := fun u hu => by
    unfold vtRow at hu
    obtain ⟨z, _, hz⟩ := List.mem_flatMap.1 hu
    simp [vtCells] at hz
    rcases hz with rfl | rfl | rfl <;> rfl
  refine doneH (i := 6) rfl (by kernel_rfl) (by rfl) (fun K hK => ?_)
  have HK : Hid _ := hK
  clear hK
  refine wp_append_lies _ _ _ _ (by rfl) W12.heap.size 47 i0 (.agg #[I64 0, I64 0, I64 0]) 3 24 Tryz.underlying39 hi hz0 hz1 hz2 rfl (by omega) (.slice p13 A.length c13) A.length (vtRow A) (by rfl) hr13' ⟨gB, 0, none⟩ B.length cB (vtRow B) (by rfl) (vtRow_length B) hnews hone (by omega) (by unfold maxLen; omega) (by omega) hB1213.size W13.heap.size rfl ?_
  intro gO cO W14 hown14 hgrow14 hat14 hlt14
  have hB1314 : Below W12.heap.size W13 W14 := ((Chg.refl (fun k => (Value.slice p13 A.length c13).ownBlock = some k) W13).grown hgrow14 (fun k e => .inl e)).below hB1213.size (fun k hk hs => by have := (hr13'.lt k hs).1; omega)
  have hB1214 : Below W12.heap.size W12 W14 := hB1213.trans hB1314
  have e2 : W14.cell? ⟨pp, 0, none⟩ = some (.slice pG G.length cG) := (hB1214.cell (p := ⟨pp, 0, none⟩) (World.block_lt_of_cell? W12 _ u0)).trans u0
  have hr14 : W14.ownsRow W12.heap.size 47 3 (.slice (some ⟨gO, 0, none⟩) (A.length + B.length) cO) (A ++ B).length (vtRow (A ++ B)) := by
    rw [vtRow_append, List.length_append]
    exact hown14
  have hB8d : Below W8.heap.size W8 W14 := hB8c.trans (hB1214.mono hB8c.size)
  obtain ⟨g', c', he, hcV⟩ := jvlies_of hr14 (by rw [List.length_append]; omega)
  simp only [Value.slice.injEq, Option.some.injEq, Addr.mk.injEq, List.length_append, true_and, and_true] at he
  obtain ⟨rfl, rfl⟩ := he
  have hnm := HNM.out gO cO W14 (hA8.below hB8d hA8.lt_b (hA8.lt_g hT.1)) (glies_on hGL8 hB8d) (.inr ⟨gO, rfl, hcV⟩) (fun j hj => (hB8d.cell (p := ⟨gw, j, none⟩) (World.block_lt_of_cell? W8 _ (hcw8 j hj))).trans (hcw8 j hj))
  clear hHeld hown14 hgrow14 hat14 hlt14 hnews hone hr13' hcB13 hr14 hcV HNM e1
  refine HK.out _ _ e2 (fun hHeld => ?_)
  clear HK K
  try simp only [Act.put, List.setIfInBounds_toArray, List.set_cons_zero, List.set_cons_succ]
  refine doneH (i := 8) rfl (by kernel_rfl) (by rfl) (fun K hK => ?_)
  have HK : Hid _ := hK
  clear hK
  go_simp
  refine hnm.mono ?_
  rintro e W15 ⟨rfl, hB15⟩
  have e3 : W15.cell? ⟨pp, 0, none⟩ = some (.slice pG G.length cG) := (hB15.cell (p := ⟨pp, 0, none⟩) (World.block_lt_of_cell? W14 _ e2)).trans e2
  have hB1215 : Below W12.heap.size W12 W15 := hB1214.trans (hB15.mono hB1214.size)
  clear hHeld hnm hB1213 hB1314 hB1214 hB8d hB15
  refine HK.out _ _ e3 (fun hHeld => ?_)
  clear HK K e2 e3
  try simp only [Act.put, List.setIfInBounds_toArray, List.set_cons_zero, List.set_cons_succ]
  refine takeH (i := 9) (v := ?vv7) rfl (by kernel_rfl) (by kernel_rfl) (by kernel_rfl) (fun _ _ _ h => h) (Or.inl ⟨by rfl, ?hy7⟩) (by assumption) ?rest7
  case hy7 => (intro w hSw; (try dsimp only at hSw); go_simp; try with_reducible rfl)
  try simp only [Act.put, List.setIfInBounds_toArray, List.set_cons_zero, List.set_cons_succ]
  refine takeH (i := 10) (v := ?vv8) rfl (by kernel_rfl) (by kernel_rfl) (by kernel_rfl) (fun _ _ _ h => h) (Or.inl ⟨by rfl, ?hy8⟩) (by assumption) ?rest8
  case hy8 => (intro w hSw; (try dsimp only at hSw); go_simp; try with_reducible rfl)
  try simp only [Act.put, List.setIfInBounds_toArray, List.set_cons_zero, List.set_cons_succ]
  refine takeH (i := 11) (v := ?vv9) rfl (by kernel_rfl) (by kernel_rfl) (by kernel_rfl) (fun _ _ _ h => h) (Or.inl ⟨by rfl, ?hy9⟩) (by assumption) ?rest9
  case hy9 => (intro w hSw; (try dsimp only at hSw); go_simp; try with_reducible rfl)
  try simp only [Act.put, List.setIfInBounds_toArray, List.set_cons_zero, List.set_cons_succ]
  refine takeH (i := 12) (v := ?vv10) rfl (by kernel_rfl) (by kernel_rfl) (by kernel_rfl) (fun _ _ _ h => h) (Or.inl ⟨by rfl, ?hy10⟩) (by assumption) ?rest10
  case hy10 => (intro w hSw; (try dsimp only at hSw); go_simp; try with_reducible rfl)
  try simp only [Act.put, List.setIfInBounds_toArray, List.set_cons_zero, List.set_cons_succ]
  refine takeH (i := 13) (v := ?vv11) rfl (by kernel_rfl) (by kernel_rfl) (by kernel_rfl) (fun _ _ _ h => h) (Or.inl ⟨by rfl, ?hy11⟩) (by assumption) ?rest11
  case hy11 => (intro w hSw; (try dsimp only at hSw); go_simp; try with_reducible rfl)
  try simp only [Act.put, List.setIfInBounds_toArray, List.set_cons_zero, List.set_cons_succ]
  clear hHeld
  refine wpAnyH_done (by kernel_rfl) ?_ _
  have hBw12 : Below w.heap.size w W12 := hBw8.trans (hB8c.mono hBw8.size)
  have hG12 := glies_on hGL8 hB8c
  have u1 : W12.cell? ⟨pp, 1, none⟩ = some (I64 kk) := (hB8c.cell (p := ⟨pp, 1, none⟩) hpl).trans z81
  have hal : sumI ws ≤ 1200 := by
    have h9 := sumI_bounds (l := ws) (m := 100) (fun z hz => by have := hW.at' z hz; omega)
    omega
  obtain ⟨all, hall⟩ : ∃ all, sumI ws = all := ⟨_, rfl⟩
  rw [hall] at hthird hal
  clear hcw8 hk8X hk8Y hA8 hGL8 z80 z81 hpl HB1 HB2 HH1 HH2 hB8c hBw8
  have hp12 := World.block_lt_of_cell? W12 _ u0
  dsimp only at hp12
  go_wp2_with fail
  try rw [hall]
  clear hall
  go_loopw [29, 30] (fun ok ii wr => ∃ k : Nat, k ≤ G.length ∧ ii = .int .i64 k ∧ ok = .bool true ∧ Below W12.heap.size W12 wr) (fun _ ii _ => G.length - (intOf ii).toNat)
  case atStart => exact ⟨0, by omega, rfl, rfl, hB1215⟩
  case round =>
    obtain ⟨k, hk, rfl, rfl, hB⟩ := hrel
    have q0 : wr.cell? ⟨pp, 0, none⟩ = some (.slice pG G.length cG) := (hB.cell (p := ⟨pp, 0, none⟩) hp12).trans u0
    have q1 : wr.cell? ⟨pp, 1, none⟩ = some (I64 kk) := (hB.cell (p := ⟨pp, 1, none⟩) hp12).trans u1
    by_cases hlt : k < G.length
    · have hlt' : (k : Int) < (G.length : Int) := by omega
      rcases hG12 with rfl | ⟨gG, rfl, hcG⟩
      · simp at hlt
      obtain ⟨gu, hgu⟩ : ∃ gu, G[k]? = some gu := ⟨_, List.getElem?_eq_getElem hlt⟩
      have hgm := HGO.out gu (List.mem_of_getElem? hgu)
      have hgl : gG < W12.heap.size := World.block_lt_of_cell? W12 _ (hcG k gu hgu 0 _ rfl)
      have cells : ∀ W, Below W12.heap.size W12 W → ∀ i u, (guCells gu)[i]? = some u → W.cell? ⟨gG, k * 8 + i, none⟩ = some u := fun W hBW i u h => (hBW.cell (p := ⟨gG, k * 8 + i, none⟩) hgl).trans (hcG k gu hgu i u h)
      have c2 : wr.cell? ⟨gG, k * 8 + 2, none⟩ = some (I64 gu.a.v) := cells wr hB 2 _ rfl
      have c3 : wr.cell? ⟨gG, k * 8 + 2 + 1, none⟩ = some (I64 gu.a.s) := cells wr hB 3 _ rfl
      have c4 : wr.cell? ⟨gG, k * 8 + 2 + 2, none⟩ = some (I64 gu.a.t) := cells wr hB 4 _ rfl
      have ham := among_at (some ⟨gA, 0, none⟩) cA A gu.a wr (vlies_on hcA12 hAp hB) (by omega) hgm.1
      have HC : Hid _ := cells
      clear cells hgu hcG
      go_wp2_with fail
      refine ham.mono ?_
      rintro e V1 ⟨rfl, hBV1⟩
      have hB1 : Below W12.heap.size W12 V1 := hB.trans (hBV1.mono hB.size)
      clear ham c2 c3 c4 q0 q1 hBV1
      have q0 : V1.cell? ⟨pp, 0, none⟩ = some (.slice (some ⟨gG, 0, none⟩) G.length cG) := (hB1.cell (p := ⟨pp, 0, none⟩) hp12).trans u0
      have c5 : V1.cell? ⟨gG, k * 8 + 5, none⟩ = some (I64 gu.b.v) := HC.out V1 hB1 5 _ rfl
      have c6 : V1.cell? ⟨gG, k * 8 + 5 + 1, none⟩ = some (I64 gu.b.s) := HC.out V1 hB1 6 _ rfl
      have c7 : V1.cell? ⟨gG, k * 8 + 5 + 2, none⟩ = some (I64 gu.b.t) := HC.out V1 hB1 7 _ rfl
      have ham := among_at (some ⟨gB, 0, none⟩) cB B gu.b V1 (vlies_on hcB hBp hB1) (by omega) hgm.2
      go_wp2_with fail
      refine ham.mono ?_
      rintro e V2 ⟨rfl, hBV2⟩
      have hB2 : Below W12.heap.size W12 V2 := hB1.trans (hBV2.mono hB1.size)
      clear ham c5 c6 c7 q0 hBV2
      go_wp2
      go_roundw
      case rel => exact ⟨k + 1, by omega, by go_num, rfl, hB2⟩
      case measure => simp [intOf]; omega
    · have h3 : 3 * kk ≥ all := by omega
      have hb3 : kk == kk := by simp
      go_wp2
      go_ret
      exact ⟨rfl, hBw12.trans (hB.mono hBw12.size)⟩
end Go.Proofs.YtgebcnnenhgkcaaGreat
