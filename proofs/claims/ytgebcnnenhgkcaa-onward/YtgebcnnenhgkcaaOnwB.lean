/- The statements without the document's answer: Onward. -/
import Derived.Test.YtgebcnnenhgkcaaOnwA
import Derived.Test.YtgebcnnenhgkcaaKeepF
import Derived.BigRegion
namespace Go.Proofs.Ytgebcnnenhgkcaa
open Go.RowKit Go.Shelf

theorem info_ints : (Try.prog.info? 22).map (fun i => (i.zero, i.size, i.bytes)) = some (some (.slice none 0 0), 1, 24) := by kernel_rfl
theorem info_bool : (Try.prog.info? 4).map (fun i => (i.zero, i.size, i.bytes)) = some (some (.bool false), 1, 1) := by kernel_rfl
def n21 : Nat := 21
theorem n21_eq : n21 = 21 := rfl
theorem makes_at {z : Value} {n j : Nat} (hz : z.cells = #[z]) (hj : j < n) : (madeCells z.cells (n * 1)).toList[j]? = some z := by
  rw [hz, toList_madeCells_one z (n * 1)]
  simp [hj]

theorem onw_bounds {ws : List Int} {ps : List Int} {vs : List Vt} (hW : OkWs ws) (hO : OkV ws.length ps vs) (s t : Int) : 0 ≤ wSum ws (onL vs s t) ∧ wSum ws (onL vs s t) ≤ 1200 := by
  have h1 := sumI_bounds (l := (onL vs s t).map (wAt ws)) (m := 100) (fun z hz => by
    simp only [List.mem_map] at hz
    obtain ⟨v, hv, rfl⟩ := hz
    have h2 := hO.v _ (mem_onL.1 hv)
    have := hW.wAt (v := v) (by dsimp only at h2; omega)
    omega)
  have h3 := onL_length hO s t
  have := hW.le
  unfold wSum
  simp only [List.length_map] at h1
  omega
theorem onL_snoc (vs : List Vt) (x : Vt) (s t : Int) : onL (vs ++ [x]) s t = onL vs s t ++ (if x.s = s ∧ x.t = t then [x.v] else []) := by
  unfold onL
  rw [List.filter_append, List.map_append]
  congr 1
  by_cases h : x.s = s ∧ x.t = t
  · rw [if_pos h]
    have : x.on s t = true := Vt.on_iff.2 h
    simp [this]
  · rw [if_neg h]
    have : ¬ x.on s t = true := fun h' => h (Vt.on_iff.1 h')
    simp [this]
theorem wSum_snoc (ws l : List Int) (v : Int) : wSum ws (l ++ [v]) = wSum ws l + wAt ws v := by
  unfold wSum
  rw [List.map_append, sumI_append]
  simp [sumI_cons, sumI_nil]
def setM (M : Nat → Nat → Int) (a t : Nat) (x : Int) : Nat → Nat → Int := fun i j => if i = a ∧ j = t then x else M i j

/-- What lies while it is voted onward: the Court, where each voter has come, the weights of the links. -/
structure OSt (w wr : World) (b : Nat) (S : Nat → Prop) (ws : List Int) (vs : List Vt) (wv pv vv : Value) (gw gA gW : Nat) (gR : Nat → Nat) (A : Nat → Nat) (M : Nat → Nat → Int) : Prop where
  court : CourtAt wr b S 0 ws (rowPs 20) vs wv pv vv
  pos : 0 < ws.length
  wt : ArrAt wr gw ws.length (fun j => I64 (wAt ws j))
  at' : ArrAt wr gA ws.length (fun j => I64 (A j))
  tab : ArrAt wr gW 21 (fun j => .slice (some ⟨gR j, 0, none⟩) n21 n21)
  rows : ∀ a, a < 21 → ArrAt wr (gR a) 21 (fun j => I64 (M a j))
  nS : ¬ S gw ∧ ¬ S gA ∧ ¬ S gW ∧ ∀ a, a < 21 → ¬ S (gR a)
  inj : ∀ a c, a < 21 → c < 21 → gR a = gR c → a = c
  neA : gA ≠ gw ∧ gA ≠ gW ∧ ∀ a, a < 21 → gA ≠ gR a
  neW : gW ≠ gw ∧ ∀ a, a < 21 → gW ≠ gR a
  neR : ∀ a, a < 21 → gR a ≠ gw
  below : Below w.heap.size w wr
  low : ∀ k, S k → w.heap.size ≤ k
  lowG : w.heap.size ≤ gA ∧ ∀ a, a < 21 → w.heap.size ≤ gR a
section
variable {w wr w2 : World} {b : Nat} {S S2 : Nat → Prop} {ws : List Int} {vs vs2 : List Vt} {wv pv vv vv2 pv2 : Value} {gw gA gW : Nat} {gR : Nat → Nat} {A : Nat → Nat} {M : Nat → Nat → Int}
theorem OSt.move (h : OSt w wr b S ws vs wv pv vv gw gA gW gR A M) (hC : CourtAt w2 b S2 0 ws (rowPs 20) vs2 wv pv2 vv2) (hc : Chg S wr w2) (hs : ∀ k, S2 k → S k ∨ wr.heap.size ≤ k) : OSt w w2 b S2 ws vs2 wv pv2 vv2 gw gA gW gR A M := by
  obtain ⟨n1, n2, n3, n4⟩ := h.nS
  have l1 := h.wt.lt h.pos
  have l2 := h.at'.lt h.pos
  have l3 := h.tab.lt (by omega)
  exact ⟨hC, h.pos, h.wt.kept hc n1 h.pos, h.at'.kept hc n2 h.pos, h.tab.kept hc n3 (by omega), fun a ha => (h.rows a ha).kept hc (n4 a ha) (by omega),
    ⟨fun k => (hs _ k).elim n1 (fun l => by omega), fun k => (hs _ k).elim n2 (fun l => by omega), fun k => (hs _ k).elim n3 (fun l => by omega), fun a ha k => (hs _ k).elim (n4 a ha) (fun l => by have := (h.rows a ha).lt (by omega); omega)⟩,
    h.inj, h.neA, h.neW, h.neR, h.below.trans (hc.below h.below.size (fun k hk hS => by have := h.low k hS; omega)), fun k hk => (hs k hk).elim (h.low k) (fun l => Nat.le_trans h.below.size l), h.lowG⟩
theorem OSt.on (h : OSt w wr b S ws vs wv pv vv gw gA gW gR A M) (hc : Chg (fun _ => False) wr w2) : OSt w w2 b S ws vs wv pv vv gw gA gW gR A M :=
  h.move (h.court.kept hc (fun _ _ hf => hf)) (hc.mono (fun _ _ hf => hf.elim)) (fun _ hk => .inl hk)
theorem OSt.put (h : OSt w wr b S ws vs wv pv vv gw gA gW gR A M) {a t : Nat} (ha : a < 21) (ht : t < 21) (x : Int) : OSt w (wr.setCell ⟨gR a, t, none⟩ (I64 x)) b S ws vs wv pv vv gw gA gW gR A (setM M a t x) := by
  have hc : Chg (fun k => k = gR a) wr (wr.setCell ⟨gR a, t, none⟩ (I64 x)) := (Chg.refl (fun k => k = gR a) wr).setCell (p := ⟨gR a, t, none⟩) (.inl rfl) _
  refine ⟨h.court.kept hc (fun k hk e => h.nS.2.2.2 a ha (e ▸ hk)), h.pos, h.wt.other (h.neR a ha) _ _, h.at'.other (Ne.symm (h.neA.2.2 a ha)) _ _, h.tab.other (Ne.symm (h.neW.2 a ha)) _ _, fun c hcl => ?_, h.nS, h.inj, h.neA, h.neW, h.neR, h.below.setCell (p := ⟨gR a, t, none⟩) (h.lowG.2 a ha) _, h.low, h.lowG⟩
  by_cases e : c = a
  · subst e
    exact (h.rows c hcl).set ht (by simp [setM]) (fun j _ hj => by simp [setM, hj])
  · have := (h.rows c hcl).other (g' := gR a) (fun e' => e (h.inj c a hcl ha e'.symm)) t (I64 x)
    exact ⟨fun j hj => by rw [this.c j hj]; simp [setM, e], this.z⟩
theorem OSt.go (h : OSt w wr b S ws vs wv pv vv gw gA gW gR A M) {v t : Nat} (hv : v < ws.length) : OSt w (wr.setCell ⟨gA, v, none⟩ (I64 t)) b S ws vs wv pv vv gw gA gW gR (setA A v t) M := by
  have hc : Chg (fun k => k = gA) wr (wr.setCell ⟨gA, v, none⟩ (I64 t)) := (Chg.refl (fun k => k = gA) wr).setCell (p := ⟨gA, v, none⟩) (.inl rfl) _
  exact ⟨h.court.kept hc (fun k hk e => h.nS.2.1 (e ▸ hk)), h.pos, h.wt.other h.neA.1 _ _, h.at'.set hv (by simp [setA]) (fun j _ hj => by simp [setA, hj]), h.tab.other h.neA.2.1 _ _, fun c hcl => (h.rows c hcl).other (h.neA.2.2 c hcl) _ _, h.nS, h.inj, h.neA, h.neW, h.neR, h.below.setCell (p := ⟨gA, v, none⟩) h.lowG.1 _, h.low, h.lowG⟩
end

/-- The marks of what is just, while they are made. -/
def jT (ws : List Int) (vs : List Vt) (i k j : Nat) : Bool := if j < i then jB ws vs j else if j = i then (decide (i = 0) || anyB (fun k => jB ws vs k && linkB ws vs k i) k) else false
theorem jT_end (ws : List Int) (vs : List Vt) {i : Nat} (hi : i ≤ 20) (j : Nat) : jT ws vs i i j = if j ≤ i then jB ws vs j else false := by
  unfold jT
  by_cases h1 : j < i
  · rw [if_pos h1, if_pos (by omega)]
  · rw [if_neg h1]
    by_cases h2 : j = i
    · subst h2
      rw [if_pos rfl, if_pos (Nat.le_refl _)]
      by_cases h0 : j = 0
      · subst h0; rw [jB_zero]; rfl
      · rw [jB_step ws vs (by omega) hi]; simp [h0]
    · rw [if_neg h2, if_neg (by omega)]
theorem jT_next (ws : List Int) (vs : List Vt) {i : Nat} (hi : i ≤ 20) (j : Nat) : jT ws vs (i + 1) 0 j = jT ws vs i i j := by
  rw [jT_end ws vs hi]
  unfold jT
  by_cases h1 : j < i + 1
  · rw [if_pos h1, if_pos (show j ≤ i by omega)]
  · rw [if_neg h1, if_neg (show ¬ j ≤ i by omega)]
    by_cases h2 : j = i + 1
    · rw [if_pos h2]; simp [anyB]
    · rw [if_neg h2]
theorem jT_zero (ws : List Int) (vs : List Vt) (j : Nat) : jT ws vs 0 0 j = decide (j = 0) := by
  unfold jT
  by_cases h : j = 0 <;> simp [h]
theorem jT_step (ws : List Int) (vs : List Vt) (i k j : Nat) : jT ws vs i (k + 1) j = if j = i then (jT ws vs i k i || (jB ws vs k && linkB ws vs k i)) else jT ws vs i k j := by
  unfold jT
  by_cases h2 : j = i
  · subst h2
    simp [anyB, Bool.or_assoc]
  · by_cases h1 : j < i
    · simp [h1, h2]
    · simp [h1, h2]

set_option maxRecDepth 100000 in
set_option maxHeartbeats 16000000 in
theorem onward_at (p q : Option Addr) (c d : Nat) (raw votes : List Int) (w : World) (hx : IntsAt w p raw) (hy : IntsAt w q votes) (hl : raw.length ≤ maxLen) (hl2 : votes.length ≤ maxLen)
    (hb : ∀ r ∈ raw, -9223372036854775808 ≤ r ∧ r ≤ 9223372036854775807) (hb2 : ∀ r ∈ votes, -9223372036854775808 ≤ r ∧ r ≤ 9223372036854775807) :
    Calls Try.prog 5 #[.slice p raw.length c, .slice q votes.length d] w fun e w' => e = .returned (.bool true) ∧ Below w.heap.size w w' := by
  obtain ⟨i0, hi, hz0, hz1, hz2⟩ := info_parts info_int
  obtain ⟨i1, hi1, hy0, hy1, hy2⟩ := info_parts info_ints
  obtain ⟨i2, hi2, hx0, hx1, hx2⟩ := info_parts info_bool
  have hl2' : votes.length ≤ 9223372036854775807 := by unfold maxLen at hl2; omega
  have HB2 : Hid (∀ r ∈ votes, -9223372036854775808 ≤ r ∧ r ≤ 9223372036854775807) := hb2
  clear hb2
  go_enter Try.func5, Try.ntmps5
  go_wp2_with fail
  refine (weights_at p c raw w hx hl hb).mono ?_
  rintro e w1 ⟨⟨vw, rfl, hrw⟩, hB1⟩
  have hok := wsOf_ok raw
  obtain ⟨ws, hws⟩ : ∃ ws, wsOf raw = ws := ⟨_, rfl⟩
  rw [hws] at hrw hok ⊢
  clear hws
  have hW := okWs_of hok
  have hWp := hW.pos
  have hw12 := hW.le
  go_wp2_with fail
  refine (opened_at vw ws w1 (row_low hrw) hok).mono ?_
  rintro e w2 ⟨b, S0, wv, pv, rfl, hC2, hB2, hS2⟩
  have hz1' := hB1.size
  obtain ⟨gw, capw, rfl, _, _, hcw, hfw⟩ := row_open (row_low hrw) hW.pos
  have hgw := (hrw.lt gw rfl)
  have hAw1 : ArrAt w1 gw ws.length (fun j => I64 (wAt ws j)) := ⟨fun j hj => by rw [hcw j hj]; simp [wAt], hfw⟩
  have HWW : Hid (OkWs ws) := hW
  have hallb : 0 ≤ sumI ws ∧ sumI ws ≤ 1200 := by
    have h1 := sumI_bounds (l := ws) (m := 100) (fun z hz => by
      obtain ⟨j, hj⟩ := List.mem_iff_getElem?.1 hz
      have hjl := (List.getElem?_eq_some_iff.1 hj).1
      have := hW.wAt (v := (j : Int)) (by simpa using hjl)
      unfold wAt at this
      simp only [Int.toNat_natCast, hj, Option.getD_some] at this
      omega)
    omega
  obtain ⟨all, hall⟩ : ∃ all, sumI ws = all := ⟨_, rfl⟩
  rw [hall] at hallb ⊢
  have HALL : Hid (sumI ws = all) := hall
  clear hall hW hcw hfw hx hb hrw hok
  have hC2' : CourtAt w2 b S0 0 ws (rowPs 0) [] wv pv (.slice none 0 0) := hC2
  clear hC2
  go_wp2_with fail
  go_loopw [8] (fun ii wr => ∃ (i : Nat) (S : Nat → Prop) (pv' : Value), i ≤ 20 ∧ ii = .int .i64 i ∧ CourtAt wr b S 0 ws (rowPs i) [] wv pv' (.slice none 0 0) ∧ Below w1.heap.size w1 wr ∧ (∀ k, S k → w1.heap.size ≤ k)) (fun ii _ => 20 - (intOf ii).toNat)
  case atStart => exact ⟨0, S0, pv, by omega, rfl, hC2', hB2, hS2⟩
  case round =>
    clear hC2' hB2 hS2
    obtain ⟨i, S, pv', hil, rfl, hC, hB, hS⟩ := hrel
    by_cases hlt : i < 20
    · have hlt' : (i : Int) < 20 := by omega
      have hTi := rowPs_tree (n := i) (by omega)
      obtain ⟨e1, e2, e3⟩ := blk_room (ps := rowPs i) (p := (i : Int)) (by omega) (by rw [rowPs_length]; omega) (by rw [rowPs_length]; omega)
      rw [rowPs_succ] at e3
      have hbk := block_at b S ws (rowPs i) [] wv pv' _ (i : Int) wr hC hTi hWp
      rw [e1, e2, e3, rowPs_length] at hbk
      clear e1 e2 e3
      go_wp2_with fail
      refine hbk.mono ?_
      rintro e w3 ⟨rfl, S2, pv2, hC3, hc3, hs3⟩
      clear hbk
      have hB3 : Below w1.heap.size w1 w3 := hB.trans (hc3.below hB.size (fun k hk h1 => by have := hS k h1; omega))
      have hS3 : ∀ k, S2 k → w1.heap.size ≤ k := fun k hk => (hs3 k hk).elim (hS k) (fun h => Nat.le_trans hB.size h)
      have hcast : ((i + 1 : Nat) : Int) = (i : Int) + 1 := by omega
      rw [hcast]
      clear hcast
      go_wp2
      go_roundw
      case rel => exact ⟨i + 1, S2, pv2, by omega, by go_num, hC3, hB3, hS3⟩
      case measure => simp [intOf]; omega
    · have hi20 : i = 20 := by omega
      subst hi20
      clear hlt hil
      have h63a : Hid (ws.length ≤ maxLen) := by show _ ≤ _; unfold maxLen; omega
      have hbya : Hid (i0.bytes * ws.length ≤ 281474976710656) := by show _ ≤ _; rw [hz2]; omega
      have h63b : Hid (n21 ≤ maxLen) := by show _ ≤ _; unfold maxLen n21; omega
      have hbyb : Hid (i1.bytes * n21 ≤ 281474976710656) := by show _ ≤ _; rw [hy2]; unfold n21; omega
      have hbyc : Hid (i0.bytes * n21 ≤ 281474976710656) := by show _ ≤ _; rw [hz2]; unfold n21; omega
      have hbyd : Hid (i2.bytes * n21 ≤ 281474976710656) := by show _ ≤ _; rw [hx2]; unfold n21; omega
      clear hz2 hy2 hx2
      go_wp2_with (first | (at_make; refine wpList_make_full _ (by rfl) _ _ _ (by rfl) 0 3 i0 (I64 0) 1 Try.underlying22 hi hz0 hz1 .i64 .i64 _ _ ws.length (by rfl) (by rfl) rfl rfl hbya.out h63a.out (Nat.zero_le _) ?_; intro w4 hown4 hgrow4) | (at_make; refine wpList_make_full _ (by rfl) _ _ _ (by rfl) 0 22 i1 (.slice none 0 0) 1 Try.underlying54 hi1 hy0 hy1 .i64 .i64 _ _ n21 (by rfl) (by rfl) rfl rfl hbyb.out h63b.out (Nat.zero_le _) ?_; intro w5 hown5 hgrow5))
      have hB4 : Below wr.heap.size wr w4 := (Below.refl _ wr).grown hgrow4 (Nat.le_refl _) (fun k e => by cases e)
      have hA4 : ArrAt w4 wr.heap.size ws.length (fun _ => I64 0) := arr_made hown4 (fun j hj => makes_at rfl hj)
      have hCw4 := hC.kept (Chg.of_below (fun _ => False) hB4) (fun _ _ hf => hf)
      have hBw4 : Below w1.heap.size w1 w4 := hB.trans (hB4.mono hB.size)
      have hgA1 : w1.heap.size ≤ wr.heap.size := hB.size
      have hgA2 : wr.heap.size < w4.heap.size := hA4.lt hWp
      have hSA : ¬ S wr.heap.size := fun hs => by have := hC.lt _ hs; omega
      have hSlt : ∀ k, S k → k < wr.heap.size := hC.lt
      obtain ⟨gA, hgA⟩ : ∃ gA, wr.heap.size = gA := ⟨_, rfl⟩
      rw [hgA] at hA4 hgA1 hgA2 hSA hSlt ⊢
      clear hown4 hgrow4 hB4 hC hB hgA
      have hB5 : Below w4.heap.size w4 w5 := (Below.refl _ w4).grown hgrow5 (Nat.le_refl _) (fun k e => by cases e)
      have hT5 : ArrAt w5 w4.heap.size 21 (fun _ => .slice none 0 0) := arr_made hown5 (fun j hj => makes_at (z := .slice none 0 0) rfl hj)
      have hCw5 := hCw4.kept (Chg.of_below (fun _ => False) hB5) (fun _ _ hf => hf)
      have hA5 := hA4.kept (Chg.of_below (fun _ => False) hB5) (fun hf => hf) hWp
      have hBw5 : Below w1.heap.size w1 w5 := hBw4.trans (hB5.mono hBw4.size)
      have hgW2 : w4.heap.size < w5.heap.size := hT5.lt (by omega)
      obtain ⟨gW, hgW⟩ : ∃ gW, w4.heap.size = gW := ⟨_, rfl⟩
      rw [hgW] at hT5 hgA2 hgW2 ⊢
      clear hown5 hgrow5 hB5 hCw4 hA4 hBw4 hgW
      go_wp2_with fail
      go_loopw [13] (fun ii wq => ∃ (i : Nat) (gR : Nat → Nat), i ≤ 21 ∧ ii = .int .i64 i ∧ Chg (fun k => k = gW) w5 wq ∧ ArrAt wq gW 21 (fun j => if j < i then .slice (some ⟨gR j, 0, none⟩) n21 n21 else .slice none 0 0) ∧ Hid (∀ a, a < i → ArrAt wq (gR a) 21 (fun _ => I64 0)) ∧ Hid (∀ a, a < i → w5.heap.size ≤ gR a ∧ gR a < wq.heap.size) ∧ Hid (∀ a c, a < i → c < i → gR a = gR c → a = c)) (fun ii _ => 21 - (intOf ii).toNat)
      case atStart => exact ⟨0, fun _ => 0, by omega, rfl, Chg.refl _ _, ⟨fun j hj => by rw [hT5.c j hj]; simp, hT5.z⟩, fun a ha => by omega, fun a ha => by omega, fun a c ha => by omega⟩
      case round =>
        obtain ⟨i, gR, hi21, rfl, hcq, hT, HRw, HRl, HRi⟩ := hrel
        by_cases hlt : i < 21
        · have hlt' : (i : Int) ≤ 20 := by omega
          have hlt2 : (i : Int) < (n21 : Int) := by rw [n21_eq]; omega
          have hzq := hcq.size
          have hTl := hT.lt (by omega)
          have hTi := hT.c i hlt
          have hTz := hT.z i
          simp only [Nat.lt_irrefl, if_false] at hTi
          go_wp2_with (at_make; refine wpList_make_full _ (by rfl) _ _ _ (by rfl) 0 3 i0 (I64 0) 1 Try.underlying22 hi hz0 hz1 .i64 .i64 _ _ n21 (by rfl) (by rfl) rfl rfl hbyc.out h63b.out (Nat.zero_le _) ?_; intro w6 hown6 hgrow6; have hB6 : Below wr.heap.size wr w6 := (Below.refl _ wr).grown hgrow6 (Nat.le_refl _) (fun k e => by cases e); have hcT : w6.cell? ⟨gW, i, none⟩ = some (.slice none 0 0) := (hB6.cell (p := ⟨gW, i, none⟩) hTl).trans hTi; have hfT : w6.frozen? ⟨gW, i, none⟩ = false := (hB6.frozen (p := ⟨gW, i, none⟩) hTl).trans hTz)
          have hc6 : Chg (fun _ => False) wr w6 := Chg.of_below _ hB6
          have hR6 : ArrAt w6 wr.heap.size 21 (fun _ => I64 0) := arr_made hown6 (fun j hj => makes_at rfl hj)
          have hl6 := hR6.lt (by omega)
          have hne : wr.heap.size ≠ gW := by omega
          go_roundw
          case rel =>
            refine ⟨i + 1, fun j => if j = i then wr.heap.size else gR j, by omega, by go_num, ?_, ?_, ?_, ?_, ?_⟩
            · exact (hcq.trans (Chg.of_below _ hB6)).setCell (p := ⟨gW, i, none⟩) (.inl rfl) _
            · refine (hT.kept hc6 (fun hf => hf) (by omega)).set hlt (by simp) (fun j _ hj => ?_)
              dsimp only
              by_cases h1 : j < i
              · rw [if_pos (by omega), if_pos h1, if_neg hj]
              · rw [if_neg (by omega), if_neg h1]
            · intro a ha
              dsimp only
              by_cases e : a = i
              · rw [if_pos e]; exact hR6.other (Ne.symm hne) _ _
              · rw [if_neg e]
                have := HRl.out a (by omega)
                exact ((HRw.out a (by omega)).kept hc6 (fun hf => hf) (by omega)).other (by omega) _ _
            · intro a ha
              dsimp only [World.setCell]
              by_cases e : a = i
              · rw [if_pos e]; simp; omega
              · rw [if_neg e]; have := HRl.out a (by omega); simp; omega
            · intro a c' ha hc' he
              dsimp only at he
              by_cases e : a = i
              · by_cases e2 : c' = i
                · omega
                · rw [if_pos e, if_neg e2] at he; have := HRl.out c' (by omega); omega
              · by_cases e2 : c' = i
                · rw [if_neg e, if_pos e2] at he; have := HRl.out a (by omega); omega
                · rw [if_neg e, if_neg e2] at he; exact HRi.out a c' (by omega) (by omega) he
          case measure => simp [intOf]; omega
        · have hi' : i = 21 := by omega
          rw [hi'] at hT HRw HRl HRi
          have hlti : ¬ (i : Int) ≤ 20 := by omega
          clear hi'
          have hzq := hcq.size
          have hRw := HRw.out
          have hRl := HRl.out
          have hRi := HRi.out
          have hO0 : OSt w1 wr b S ws [] wv pv' (.slice none 0 0) gw gA gW gR (fun _ => 0) (fun _ _ => 0) := by
            have hgwA : gw < gA := by omega
            refine ⟨hCw5.kept hcq (fun k hk e => by have := hSlt k hk; omega), hWp, (hAw1.kept (Chg.of_below (fun _ => False) hBw5) (fun hf => hf) hWp).kept hcq (by omega) hWp, hA5.kept hcq (by omega) hWp, ⟨fun j hj => by rw [hT.c j hj, if_pos hj], hT.z⟩, hRw, ⟨fun hs => by have := hS _ hs; omega, hSA, fun hs => by have := hSlt _ hs; omega, fun a ha hs => by have := hSlt _ hs; have := hRl a ha; omega⟩, hRi, ⟨by omega, by omega, fun a ha => by have := hRl a ha; omega⟩, ⟨by omega, fun a ha => by have := hRl a ha; omega⟩, fun a ha => by have := hRl a ha; omega, hBw5.trans (hcq.below hBw5.size (fun k hk e => by omega)), hS, ⟨hgA1, fun a ha => by have := hRl a ha; have := hBw5.size; omega⟩⟩
          clear hT hRw hRl hRi HRw HRl HRi hcq hT5 hA5 hCw5 hlt hi21 hAw1 hSA hSlt hS
          go_wp2_with fail
          go_loopw [14] (fun ii wr => ∃ (i : Nat) (S : Nat → Prop) (vs : List Vt) (pv' vv' : Value) (A : Nat → Nat) (M : Nat → Nat → Int), i ≤ votes.length ∧ i ≤ 100 ∧ ii = .int .i64 i ∧ OSt w1 wr b S ws vs wv pv' vv' gw gA gW gR A M ∧ Onw ws.length A vs ∧ vs.length ≤ i ∧ Hid (∀ a j : Nat, M a j = wSum ws (onL vs a j))) (fun ii _ => 100 - (intOf ii).toNat)
          case atStart => exact ⟨0, S, [], pv', .slice none 0 0, fun _ => 0, fun _ _ => 0, by omega, by omega, rfl, hO0, ⟨fun _ => by omega, ⟨by simp, by simp, by simp, by simp⟩, by simp, by simp⟩, by simp, fun a j => rfl⟩
          case round =>
            clear hO0
            obtain ⟨i, S, vs, pv', vv', A, M, hiv, hi100, rfl, hO, hOn, hvl, HM⟩ := hrel
            by_cases hlt : i < votes.length
            · have hlt' : (i : Int) < (votes.length : Int) := by omega
              by_cases h100 : i < 100
              · have h100' : (i : Int) < 100 := by omega
                rcases hy with rfl | ⟨g, o, rfl, hcs⟩
                · simp at hlt
                obtain ⟨r, hr⟩ : ∃ r, votes[i]? = some r := ⟨_, List.getElem?_eq_getElem hlt⟩
                have hcw0 : w.cell? ⟨g, o + i, none⟩ = some (I64 r) := by
                  have h1 := hcs i hlt
                  rw [hr] at h1
                  exact h1
                have hgl : g < w.heap.size := World.block_lt_of_cell? w _ hcw0
                have hcr : wr.cell? ⟨g, o + i, none⟩ = some (I64 r) := (hO.below.cell (p := ⟨g, o + i, none⟩) (by dsimp only; omega)).trans ((hB1.cell (p := ⟨g, o + i, none⟩) hgl).trans hcw0)
                have hrb := HB2.out r (List.mem_of_getElem? hr)
                clear hr hcs
                obtain ⟨vI, hv0, hv1, hpv⟩ := pick_some r ws.length wr (by omega) (by omega) hrb
                obtain ⟨v, rfl⟩ : ∃ v : Nat, vI = v := ⟨vI.toNat, by omega⟩
                have hvn : v < ws.length := by omega
                obtain ⟨dI, hd0, hd1, hpd⟩ := pick_some (IntKind.i64.wrap (r.tdiv 100)) 2 wr.drew (by omega) (by omega) (wrap_quo r 100 (by omega) hrb)
                obtain ⟨dd, rfl⟩ : ∃ dd : Nat, dI = dd := ⟨dI.toNat, by omega⟩
                have hca := hO.at'.c v hvn
                have hcz := hO.at'.z v
                obtain ⟨a, ha⟩ : ∃ a, A v = a := ⟨_, rfl⟩
                rw [ha] at hca
                have ha20 : a ≤ 20 := by rw [← ha]; exact hOn.le v
                have HA : Hid (A v = a) := ha
                clear ha
                have hwr1 : IntKind.i64.wrap ((a : Int) + 1) = (a : Int) + 1 := Go.IntWalk.i64_in _ (by omega)
                have hwr2 : IntKind.i64.wrap ((a : Int) + 1 + (dd : Int)) = (a : Int) + 1 + (dd : Int) := Go.IntWalk.i64_in _ (by omega)
                go_wp2_with fail
                refine hpv.mono ?_
                rintro e w7 ⟨rfl, rfl⟩
                clear hpv
                go_wp2_with fail
                go_region_held3 (fun w' => w'.cell? ⟨gA, v, none⟩ = some (I64 a) ∧ w'.cell? ⟨g, o + i, none⟩ = some (I64 r))
                  (first | (refine ⟨by assumption, by assumption⟩) | (refine ⟨?_, ?_⟩ <;> simpa))
                  ((go_at_call 12; refine hpd.mono ?_; rintro e w8 ⟨rfl, rfl⟩))
                have hto : (a : Int) + 1 + (dd : Int) = ((a + 1 + dd : Nat) : Int) := by omega
                rw [hto]
                clear hto hwr1 hwr2 hpd hca hcz hcr
                generalize IntKind.i64.wrap (r.tdiv 100) = z5
                obtain ⟨t, ht⟩ : ∃ t, a + 1 + dd = t := ⟨_, rfl⟩
                have htb : a < t ∧ t ≤ 22 := by omega
                rw [ht]
                clear ht hd0 hd1
                have hO' := hO.on (Chg.drew (Chg.refl (fun _ => False) w7))
                clear hO
                by_cases h20 : t ≤ 20
                · have h20' : ¬ (t : Int) > 20 := by omega
                  obtain ⟨e1, e2, hOn2⟩ := onw_vote hOn hvn (t := t) (by rw [HA.out]; omega) h20 (by omega)
                  have hvt := vote_at b S ws (rowPs 20) vs wv pv' vv' v (A v) t w7.drew hO'.court (rowPs_tree (by omega)) hWp (by omega)
                  rw [e1, e2, HA.out] at hvt
                  rw [HA.out] at hOn2
                  have hca := hO'.at'.c v hvn
                  rw [HA.out] at hca
                  clear e1 e2
                  go_wp2_with fail
                  refine hvt.mono ?_
                  rintro e w9 ⟨rfl, S2, vv2, hC9, hc9, hs9⟩
                  clear hvt hca
                  have hO9 := hO'.move hC9 hc9 hs9
                  clear hC9 hc9 hs9 hO'
                  have c1 := hO9.at'.c v hvn
                  rw [HA.out] at c1
                  have c2 := hO9.tab.c a (by omega)
                  have c3 := (hO9.rows a (by omega)).c t (by omega)
                  have c3z := (hO9.rows a (by omega)).z t
                  have c4 := hO9.wt.c v hvn
                  obtain ⟨m, hm⟩ : ∃ m, M a t = m := ⟨_, rfl⟩
                  obtain ⟨y, hy'⟩ : ∃ y, wAt ws v = y := ⟨_, rfl⟩
                  have hmb := onw_bounds HWW.out hOn.ok (a : Int) (t : Int)
                  rw [← HM.out a t, hm] at hmb
                  have hyb := HWW.out.wAt (v := (v : Int)) (by simpa using hvn)
                  rw [hy'] at hyb
                  rw [hm] at c3
                  rw [hy'] at c4
                  have HMM : Hid (∀ i j : Nat, setM M a t (m + y) i j = wSum ws (onL (vs ++ [⟨v, a, t⟩]) i j)) := by
                    intro i' j'
                    rw [onL_snoc]
                    unfold setM
                    by_cases e : i' = a ∧ j' = t
                    · obtain ⟨rfl, rfl⟩ := e
                      rw [if_pos ⟨rfl, rfl⟩, if_pos ⟨rfl, rfl⟩, wSum_snoc, ← HM.out, hm, hy']
                    · rw [if_neg e, if_neg (by dsimp only; omega), List.append_nil]
                      exact HM.out i' j'
                  have hOx := hO9.put (a := a) (t := t) (by omega) (by omega) (m + y)
                  have hOy := fun W (h : OSt w1 W b S2 ws (vs ++ [⟨v, a, t⟩]) wv pv' vv2 gw gA gW gR A (setM M a t (m + y))) => h.go (v := v) (t := t) hvn
                  clear hm hy' HM hOn hO9
                  have n1 : (a : Int) < (n21 : Int) := by rw [n21_eq]; omega
                  have n2 : (t : Int) < (n21 : Int) := by rw [n21_eq]; omega
                  have n3 : a < n21 := by rw [n21_eq]; omega
                  have n4 : t < n21 := by rw [n21_eq]; omega
                  have hwr3 : IntKind.i64.wrap (m + y) = m + y := Go.IntWalk.i64_in _ (by omega)
                  go_wp2_with fail
                  go_region
                  have hOz := hOx.on (Chg.drew (Chg.refl (fun _ => False) _))
                  clear hOx
                  have c5 := hOz.at'.c v hvn
                  have c5z := hOz.at'.z v
                  rw [HA.out] at c5
                  have hOf := hOy _ hOz
                  clear hOz hOy c1 c2 c3 c3z c4 hwr3
                  generalize (w9.setCell ⟨gR a, t, none⟩ (Value.int IntKind.i64 (m + y))).drew = W9 at c5 c5z hOf ⊢
                  go_wp2
                  go_roundw
                  case rel => exact ⟨i + 1, S2, vs ++ [⟨v, a, t⟩], pv', vv2, setA A v t, setM M a t (m + y), by omega, by omega, by go_num, hOf, hOn2, by simp; omega, HMM⟩
                  case measure => simp [intOf]; omega
                · have h20' : (t : Int) > 20 := by omega
                  go_wp2
                  go_roundw
                  case rel => exact ⟨i + 1, S, vs, pv', vv', A, M, by omega, by omega, by go_num, hO', hOn, by omega, HM⟩
                  case measure => simp [intOf]; omega
              · have h100' : ¬ (i : Int) < 100 := by omega
                clear hlt
                go_wp2_with (at_make; refine wpList_make_full _ (by rfl) _ _ _ (by rfl) 0 4 i2 (.bool false) 1 Try.underlying57 hi2 hx0 hx1 .i64 .i64 _ _ n21 (by rfl) (by rfl) rfl rfl hbyd.out h63b.out (Nat.zero_le _) ?_; intro w6 hown6 hgrow6; have hJ6 : ArrAt w6 wr.heap.size n21 (fun _ => .bool false) := arr_made hown6 (fun j hj => makes_at (z := .bool false) rfl hj); have n0 : (0 : Int) < (n21 : Int) := (by rw [n21_eq]; omega); have hcJ := hJ6.c 0 (by rw [n21_eq]; omega); have hfJ := hJ6.z 0)
                have hB6 : Below wr.heap.size wr w6 := (Below.refl _ wr).grown hgrow6 (Nat.le_refl _) (fun k e => by cases e)
                have hO6 := hO.on (Chg.of_below (fun _ => False) hB6)
                have hJn : ¬ S wr.heap.size := fun hs => by have := hO.court.lt _ hs; omega
                have hJ7 := hJ6.set (f' := fun j => .bool (jT ws vs 0 0 j)) (k := 0) (v := .bool true) (by rw [n21_eq]; omega) (by simp [jT_zero]) (fun j _ hj => by simp [jT_zero, hj])
                obtain ⟨gJ, hgJ⟩ : ∃ gJ, wr.heap.size = gJ := ⟨_, rfl⟩
                rw [hgJ] at hJ7 hJ6 hJn ⊢
                have hcJ7 : Chg (fun k => k = gJ) w6 (w6.setCell ⟨gJ, 0, none⟩ (.bool true)) := (Chg.refl (fun k => k = gJ) w6).setCell (p := ⟨gJ, 0, none⟩) (.inl rfl) _
                have hgJ1 : w1.heap.size ≤ gJ := by rw [← hgJ]; exact hO.below.size
                have hnb : gJ ≠ gw ∧ gJ ≠ gW ∧ ∀ a, a < 21 → gJ ≠ gR a := by
                  rw [← hgJ]
                  exact ⟨by have := hO.wt.lt hWp; omega, by have := hO.tab.lt (by omega); omega, fun a ha => by have := (hO.rows a ha).lt (by omega); omega⟩
                have hC7 := hO6.court.kept hcJ7 (fun k hk e => hJn (e ▸ hk))
                have hT7 := hO6.tab.kept hcJ7 (fun e => hnb.2.1 e.symm) (by omega)
                have hR7 : Hid (∀ a, a < 21 → ArrAt (w6.setCell ⟨gJ, 0, none⟩ (.bool true)) (gR a) 21 (fun j => I64 (M a j))) := fun a ha => (hO6.rows a ha).kept hcJ7 (fun e => hnb.2.2 a ha e.symm) (by omega)
                have hB7 : Below w1.heap.size w1 (w6.setCell ⟨gJ, 0, none⟩ (.bool true)) := hO6.below.setCell (p := ⟨gJ, 0, none⟩) hgJ1 _
                have HNB : Hid (∀ a, a < 21 → gJ ≠ gR a) := hnb.2.2
                have hnW : gJ ≠ gW := hnb.2.1
                have hSlow := hO.low
                have HON : Hid (Onw ws.length A vs) := hOn
                have hO2 := hOn.ok
                have hvl3 : vs.length ≤ 300 := by omega
                have hjlt : gJ < w6.heap.size := hJ6.lt (by rw [n21_eq]; omega)
                generalize w6.setCell ⟨gJ, 0, none⟩ (.bool true) = w7 at hJ7 hC7 hT7 hR7 hB7 ⊢
                clear hO hO6 hB6 hown6 hgrow6 hgJ hcJ7 hcJ hfJ hJ6 hnb hOn
                go_wp2_with fail
                go_loopw [19, 20, 21] (fun cc ff ii wr => ∃ i : Nat, i ≤ 21 ∧ ii = .int .i64 i ∧ cc = .int .i64 (cnt (jB ws vs) i : Nat) ∧ ff = .int .i64 (cnt (fB ws vs) i : Nat) ∧ ArrAt wr gJ n21 (fun j => .bool (jT ws vs i 0 j)) ∧ Chg (fun k => k = gJ) w7 wr) (fun _ _ ii _ => 21 - (intOf ii).toNat)
                case atStart => exact ⟨0, by omega, rfl, rfl, rfl, hJ7, Chg.refl _ _⟩
                case round =>
                  clear hJ7
                  obtain ⟨i, hi21, rfl, rfl, rfl, hJ, hcq⟩ := hrel
                  have hcl := cnt_le (jB ws vs) i
                  have hfl := cnt_le (fB ws vs) i
                  by_cases hlt : i < 21
                  · have hlt2 : (i : Int) ≤ 20 := by omega
                    have hin : (i : Int) < (n21 : Int) := by rw [n21_eq]; omega
                    have hinN : i < n21 := by rw [n21_eq]; omega
                    go_wp2_with fail
                    go_loopw [22] (fun kk wr => ∃ k : Nat, k ≤ i ∧ kk = .int .i64 k ∧ ArrAt wr gJ n21 (fun j => .bool (jT ws vs i k j)) ∧ Chg (fun k => k = gJ) w7 wr) (fun kk _ => i - (intOf kk).toNat)
                    case atStart => exact ⟨0, by omega, rfl, hJ, hcq⟩
                    case round =>
                      clear hJ hcq
                      obtain ⟨k, hk, rfl, hJ, hcq⟩ := hrel
                      by_cases hkl : k < i
                      · have hkl' : (k : Int) < (i : Int) := by omega
                        have hkn : (k : Int) < (n21 : Int) := by rw [n21_eq]; omega
                        have hknN : k < n21 := by rw [n21_eq]; omega
                        have c1 := hJ.c i hinN
                        have c1z := hJ.z i
                        have c2 := hJ.c k hknN
                        have hTq := hT7.kept hcq (fun e => hnW e.symm) (by omega)
                        have hRq := (hR7.out k (by omega)).kept hcq (fun e => HNB.out k (by omega) e.symm) (by omega)
                        have c3 := hTq.c k (by omega)
                        have c4 := hRq.c i (by omega)
                        have hjk : jT ws vs i k k = jB ws vs k := by unfold jT; rw [if_pos hkl]
                        have hmb := onw_bounds HWW.out hO2 (k : Int) (i : Int)
                        rw [← HM.out k i] at hmb
                        obtain ⟨ji, hji⟩ : ∃ ji, jT ws vs i k i = ji := ⟨_, rfl⟩
                        obtain ⟨jk, hjk'⟩ : ∃ jk, jB ws vs k = jk := ⟨_, rfl⟩
                        obtain ⟨m, hm⟩ : ∃ m, M k i = m := ⟨_, rfl⟩
                        have hlk : linkB ws vs k i = decide (2 * all ≤ 3 * m) := by unfold linkB; rw [HALL.out, ← HM.out k i, hm]
                        have HN : Hid (∀ j, jT ws vs i (k + 1) j = if j = i then (ji || (jk && decide (2 * all ≤ 3 * m))) else jT ws vs i k j) := fun j => by rw [jT_step, hji, hjk', hlk]
                        rw [hji] at c1
                        rw [hjk, hjk'] at c2
                        rw [hm] at c4 hmb
                        clear hji hjk hjk' hm hlk hTq hRq
                        have hset := fun (v : Value) (h1 : Value.bool (ji || (jk && decide (2 * all ≤ 3 * m))) = v) => hJ.set (f' := fun j => .bool (jT ws vs i (k + 1) j)) (k := i) hinN (v := v) (by rw [HN.out, if_pos rfl]; exact h1) (fun j _ hj => by rw [HN.out, if_neg hj])
                        have HSET : Hid _ := hset
                        clear hset HN hJ
                        cases ji
                        · cases jk
                          · go_wp2
                            go_roundw
                            case rel => exact ⟨k + 1, by omega, by go_num, HSET.out _ rfl, hcq.setCell (p := ⟨gJ, i, none⟩) (.inl rfl) _⟩
                            case measure => simp [intOf]; omega
                          · by_cases hd : 2 * all ≤ 3 * m
                            · have hd' : 3 * m ≥ 2 * all := hd
                              go_wp2
                              go_roundw
                              case rel => exact ⟨k + 1, by omega, by go_num, HSET.out _ (by simp [hd]), hcq.setCell (p := ⟨gJ, i, none⟩) (.inl rfl) _⟩
                              case measure => simp [intOf]; omega
                            · have hd' : ¬ 3 * m ≥ 2 * all := hd
                              go_wp2
                              go_roundw
                              case rel => exact ⟨k + 1, by omega, by go_num, HSET.out _ (by simp [hd]), hcq.setCell (p := ⟨gJ, i, none⟩) (.inl rfl) _⟩
                              case measure => simp [intOf]; omega
                        · go_wp2
                          go_roundw
                          case rel => exact ⟨k + 1, by omega, by go_num, HSET.out _ (by simp), hcq.setCell (p := ⟨gJ, i, none⟩) (.inl rfl) _⟩
                          case measure => simp [intOf]; omega
                      · have hki : k = i := by omega
                        subst hki
                        have c1 := hJ.c k hinN
                        have hje : jT ws vs k k k = jB ws vs k := by rw [jT_end ws vs (by omega), if_pos (Nat.le_refl _)]
                        rw [hje] at c1
                        have hJ' : ArrAt wr gJ n21 (fun j => .bool (jT ws vs (k + 1) 0 j)) := ⟨fun j hj => by rw [hJ.c j hj, jT_next ws vs (by omega)], hJ.z⟩
                        have hTq := hT7.kept hcq (fun e => hnW e.symm) (by omega)
                        have c3 := hTq.c k (by omega)
                        have HC1 : Hid _ := cnt_succ (jB ws vs) k
                        have HC2 : Hid _ := cnt_succ (fB ws vs) k
                        have HF : Hid (fB ws vs k = (jB ws vs k && (decide (k < 20) && linkB ws vs k ((k : Int) + 1)))) := rfl
                        obtain ⟨jk, hjk⟩ : ∃ jk, jB ws vs k = jk := ⟨_, rfl⟩
                        rw [hjk] at c1 HC1 HF
                        obtain ⟨n1, hn1⟩ : ∃ n, cnt (jB ws vs) k = n := ⟨_, rfl⟩
                        obtain ⟨n2, hn2⟩ : ∃ n, cnt (fB ws vs) k = n := ⟨_, rfl⟩
                        rw [hn1] at HC1 hcl ⊢
                        rw [hn2] at HC2 hfl ⊢
                        clear hje hjk hn1 hn2 hTq hJ
                        have fin : ∀ (f : Bool), fB ws vs k = f → (cnt (jB ws vs) (k + 1) = n1 + (if jk = true then 1 else 0) ∧ cnt (fB ws vs) (k + 1) = n2 + (if f = true then 1 else 0)) := fun f h => ⟨HC1.out, by rw [HC2.out, h]⟩
                        have HFIN : Hid _ := fin
                        clear fin HC1 HC2
                        cases jk
                        · have h9 := HFIN.out false (by rw [HF.out]; rfl)
                          have HN1 : Hid (cnt (jB ws vs) (k + 1) = n1) := by rw [h9.1]; simp [Hid]
                          have HN2 : Hid (cnt (fB ws vs) (k + 1) = n2) := by rw [h9.2]; simp [Hid]
                          clear h9
                          go_wp2
                          go_roundw
                          case rel => exact ⟨k + 1, by omega, by go_num, by rw [HN1.out], by rw [HN2.out], hJ', hcq⟩
                          case measure => simp [intOf]; omega
                        · by_cases hk20 : k < 20
                          · have hk20' : (k : Int) < 20 := by omega
                            have hRq := (hR7.out k (by omega)).kept hcq (fun e => HNB.out k (by omega) e.symm) (by omega)
                            have c4 := hRq.c (k + 1) (by omega)
                            have hmb := onw_bounds HWW.out hO2 (k : Int) ((k + 1 : Nat) : Int)
                            rw [← HM.out k (k + 1)] at hmb
                            obtain ⟨m, hm⟩ : ∃ m, M k (k + 1) = m := ⟨_, rfl⟩
                            have hlk : linkB ws vs k ((k : Int) + 1) = decide (2 * all ≤ 3 * m) := by
                              have := HM.out k (k + 1)
                              rw [hm] at this
                              unfold linkB
                              rw [HALL.out, this]
                              congr 1
                            rw [hm] at c4 hmb
                            have hcast : ((k + 1 : Nat) : Int) = (k : Int) + 1 := by omega
                            have hk1n : (k : Int) + 1 < (n21 : Int) := by rw [n21_eq]; omega
                            have hk1N : k + 1 < n21 := by rw [n21_eq]; omega
                            have htn : ((k : Int) + 1).toNat = k + 1 := by omega
                            have hFk : fB ws vs k = decide (2 * all ≤ 3 * m) := by rw [HF.out, hlk]; simp [hk20]
                            have h9 := HFIN.out _ hFk
                            clear hm hlk hRq hFk
                            have HN1 : Hid (cnt (jB ws vs) (k + 1) = n1 + 1) := by rw [h9.1]; simp [Hid]
                            by_cases hd : 2 * all ≤ 3 * m
                            · have hd' : 3 * m ≥ 2 * all := hd
                              have HN2 : Hid (cnt (fB ws vs) (k + 1) = n2 + 1) := by rw [h9.2]; simp [Hid, hd]
                              clear h9
                              go_wp2
                              go_roundw
                              case rel => exact ⟨k + 1, by omega, by go_num, by rw [HN1.out]; go_num, by rw [HN2.out]; go_num, hJ', hcq⟩
                              case measure => simp [intOf]; omega
                            · have hd' : ¬ 3 * m ≥ 2 * all := hd
                              have HN2 : Hid (cnt (fB ws vs) (k + 1) = n2) := by rw [h9.2]; simp [Hid, hd]
                              clear h9
                              go_wp2
                              go_roundw
                              case rel => exact ⟨k + 1, by omega, by go_num, by rw [HN1.out]; go_num, by rw [HN2.out], hJ', hcq⟩
                              case measure => simp [intOf]; omega
                          · have hk20' : ¬ (k : Int) < 20 := by omega
                            have h9 := HFIN.out false (by rw [HF.out]; simp [hk20])
                            have HN1 : Hid (cnt (jB ws vs) (k + 1) = n1 + 1) := by rw [h9.1]; simp [Hid]
                            have HN2 : Hid (cnt (fB ws vs) (k + 1) = n2) := by rw [h9.2]; simp [Hid]
                            clear h9
                            go_wp2
                            go_roundw
                            case rel => exact ⟨k + 1, by omega, by go_num, by rw [HN1.out]; go_num, by rw [HN2.out], hJ', hcq⟩
                            case measure => simp [intOf]; omega
                  · have hi' : i = 21 := by omega
                    subst hi'
                    have hCe := hC7.kept hcq (fun k hk e => hJn (e ▸ hk))
                    have hBe : Below w1.heap.size w1 wr := hB7.trans (hcq.below hB7.size (fun k hk e => by omega))
                    have hTr := rowPs_tree (n := 20) (by omega)
                    have HJ : Hid (∀ j, j < 21 → wr.cell? ⟨gJ, j, none⟩ = some (.bool (jB ws vs j))) := fun j hj => by rw [hJ.c j (by rw [n21_eq]; omega)]; unfold jT; rw [if_pos hj]
                    have hj := just_at b S ws (rowPs 20) vs wv pv' vv' wr hCe hTr HWW.out hvl3 hO2
                    have hf := fun W hC => final_at b S ws (rowPs 20) vs wv pv' vv' W hC hTr HWW.out hvl3 hO2
                    have hg := fun W hC => guilty_at b S ws (rowPs 20) vs wv pv' vv' W hC hTr HWW.out hvl3 hO2
                    rw [onw_guilt HON.out] at hg
                    have HCj : Hid _ := just_count ws vs
                    have HCf : Hid _ := final_count ws vs
                    have hlj := justN_length ws (rowPs 20) vs 21
                    obtain ⟨Lj, hLj⟩ : ∃ L, justL ws (rowPs 20) vs = L := ⟨_, rfl⟩
                    obtain ⟨Lf, hLf⟩ : ∃ L, finalL ws (rowPs 20) vs = L := ⟨_, rfl⟩
                    have HMJ : Hid (∀ x ∈ Lj, 0 ≤ x ∧ x ≤ 20 ∧ jB ws vs x.toNat = true) := fun x hx => by
                      rw [← hLj] at hx
                      obtain ⟨h1, h2, h3⟩ := mem_justL hx
                      rw [rowPs_length] at h2
                      refine ⟨h1, by omega, ?_⟩
                      unfold jB
                      rw [Int.toNat_of_nonneg h1]
                      exact h3
                    rw [hLj] at hj HCj
                    rw [hLf] at hf HCf
                    have hl21 : Lj.length ≤ 21 := by rw [HCj.out]; exact cnt_le _ _
                    have hl21f : Lf.length ≤ 21 := by rw [HCf.out]; exact cnt_le _ _
                    rw [← HCj.out, ← HCf.out]
                    clear hLj hLf HCj HCf hlj hcl hfl hC7 hT7 hR7 hJ hcq hB7
                    go_wp2_with fail
                    refine hj.mono ?_
                    rintro e x1 ⟨⟨vj, rfl, hrj⟩, hCx1, hcx1⟩
                    clear hj
                    go_wp2_with fail
                    refine (hf _ hCx1).mono ?_
                    rintro e x2 ⟨⟨vf, rfl, hrf⟩, hCx2, hcx2⟩
                    clear hf
                    have hlt1 := hCe.lt
                    have hnj : ∀ k, vj.ownBlock = some k → ¬ S k := fun k hk hs => by have := (hrj.lt k hk).1; have := hlt1 k hs; omega
                    have hrj2 := hcx2.row hrj hnj
                    obtain ⟨pf, cf, rfl, _, _⟩ := ilies_of hrf
                    obtain ⟨pj, cj, rfl, _, _⟩ := ilies_of hrj2
                    have hbj : ((Lj.length : Int) != (Lj.length : Int)) = false := by simp
                    have hbf : ((Lf.length : Int) != (Lf.length : Int)) = false := by simp
                    go_wp2_with fail
                    refine (hg _ hCx2).mono ?_
                    rintro e x3 ⟨⟨vg, rfl, hrg⟩, hCx3, hcx3⟩
                    clear hg
                    have hrj3 := hcx3.row hrj2 hnj
                    obtain ⟨pj', cj', he, hIL, _⟩ := ilies_of hrj3
                    simp only [Value.slice.injEq, true_and] at he
                    obtain ⟨rfl, rfl⟩ := he
                    obtain ⟨cg, pg, hvg⟩ : ∃ cg pg, vg = .slice pg 0 cg := by
                      rcases hrg.2 with ⟨h1, _⟩ | ⟨g, cap, cur, h1, _⟩
                      · exact ⟨0, none, h1⟩
                      · exact ⟨cap, _, h1⟩
                    subst hvg
                    have low : ∀ {W W' : World}, Chg S W W' → Below w1.heap.size w1 W → Below w1.heap.size w1 W' := fun hc hB => hB.trans (hc.below hB.size (fun k hk hs => by have := hSlow k hs; omega))
                    have hBx := low hcx3 (low hcx2 (low hcx1 hBe))
                    have HJ3 : Hid (∀ j, j < 21 → x3.cell? ⟨gJ, j, none⟩ = some (.bool (jB ws vs j))) := fun j hj => hcx3.cell (hcx2.cell (hcx1.cell (HJ.out j hj) hJn) hJn) hJn
                    clear hrj hrj2 hrf hrg hcx1 hcx2 hcx3 hCx1 hCx2 hCx3 hCe hBe low HJ hlt1 hnj hrj3
                    go_wp2_with fail
                    go_loop [25] (fun ii => ∃ i : Nat, i ≤ Lj.length ∧ ii = .int .i64 i) (fun ii => Lj.length - (intOf ii).toNat)
                    case atStart => exact ⟨0, by omega, rfl⟩
                    case round =>
                      obtain ⟨i, hil, rfl⟩ := hrel
                      by_cases hlt : i < Lj.length
                      · have hlt' : (i : Int) < (Lj.length : Int) := by omega
                        rcases hIL with rfl | ⟨gj, rfl, hcj⟩
                        · simp at hlt
                        obtain ⟨x, hx⟩ : ∃ x, Lj[i]? = some x := ⟨_, List.getElem?_eq_getElem hlt⟩
                        have hcx : x3.cell? ⟨gj, i, none⟩ = some (I64 x) := by have h1 := hcj i hlt; rw [hx] at h1; exact h1
                        obtain ⟨m1, m2, m3⟩ := HMJ.out x (List.mem_of_getElem? hx)
                        have hcb := HJ3.out x.toNat (by omega)
                        rw [m3] at hcb
                        have b1 : ¬ x < 0 := by omega
                        have b2 : ¬ x > 20 := by omega
                        have b3 : x < (n21 : Int) := by rw [n21_eq]; omega
                        have b4 : x.toNat < n21 := by rw [n21_eq]; omega
                        clear hx hcj m3
                        go_wp2
                        go_round
                        case rel => exact ⟨i + 1, by omega, by go_num⟩
                        case measure => simp [intOf]; omega
                      · go_wp2
                        go_ret
                        exact ⟨rfl, hB1.trans (hBx.mono hB1.size)⟩
            · have hlt' : ¬ (i : Int) < (votes.length : Int) := by omega
              clear hlt
              go_wp2_with (at_make; refine wpList_make_full _ (by rfl) _ _ _ (by rfl) 0 4 i2 (.bool false) 1 Try.underlying57 hi2 hx0 hx1 .i64 .i64 _ _ n21 (by rfl) (by rfl) rfl rfl hbyd.out h63b.out (Nat.zero_le _) ?_; intro w6 hown6 hgrow6; have hJ6 : ArrAt w6 wr.heap.size n21 (fun _ => .bool false) := arr_made hown6 (fun j hj => makes_at (z := .bool false) rfl hj); have n0 : (0 : Int) < (n21 : Int) := (by rw [n21_eq]; omega); have hcJ := hJ6.c 0 (by rw [n21_eq]; omega); have hfJ := hJ6.z 0)
              have hB6 : Below wr.heap.size wr w6 := (Below.refl _ wr).grown hgrow6 (Nat.le_refl _) (fun k e => by cases e)
              have hO6 := hO.on (Chg.of_below (fun _ => False) hB6)
              have hJn : ¬ S wr.heap.size := fun hs => by have := hO.court.lt _ hs; omega
              have hJ7 := hJ6.set (f' := fun j => .bool (jT ws vs 0 0 j)) (k := 0) (v := .bool true) (by rw [n21_eq]; omega) (by simp [jT_zero]) (fun j _ hj => by simp [jT_zero, hj])
              obtain ⟨gJ, hgJ⟩ : ∃ gJ, wr.heap.size = gJ := ⟨_, rfl⟩
              rw [hgJ] at hJ7 hJ6 hJn ⊢
              have hcJ7 : Chg (fun k => k = gJ) w6 (w6.setCell ⟨gJ, 0, none⟩ (.bool true)) := (Chg.refl (fun k => k = gJ) w6).setCell (p := ⟨gJ, 0, none⟩) (.inl rfl) _
              have hgJ1 : w1.heap.size ≤ gJ := by rw [← hgJ]; exact hO.below.size
              have hnb : gJ ≠ gw ∧ gJ ≠ gW ∧ ∀ a, a < 21 → gJ ≠ gR a := by
                rw [← hgJ]
                exact ⟨by have := hO.wt.lt hWp; omega, by have := hO.tab.lt (by omega); omega, fun a ha => by have := (hO.rows a ha).lt (by omega); omega⟩
              have hC7 := hO6.court.kept hcJ7 (fun k hk e => hJn (e ▸ hk))
              have hT7 := hO6.tab.kept hcJ7 (fun e => hnb.2.1 e.symm) (by omega)
              have hR7 : Hid (∀ a, a < 21 → ArrAt (w6.setCell ⟨gJ, 0, none⟩ (.bool true)) (gR a) 21 (fun j => I64 (M a j))) := fun a ha => (hO6.rows a ha).kept hcJ7 (fun e => hnb.2.2 a ha e.symm) (by omega)
              have hB7 : Below w1.heap.size w1 (w6.setCell ⟨gJ, 0, none⟩ (.bool true)) := hO6.below.setCell (p := ⟨gJ, 0, none⟩) hgJ1 _
              have HNB : Hid (∀ a, a < 21 → gJ ≠ gR a) := hnb.2.2
              have hnW : gJ ≠ gW := hnb.2.1
              have hSlow := hO.low
              have HON : Hid (Onw ws.length A vs) := hOn
              have hO2 := hOn.ok
              have hvl3 : vs.length ≤ 300 := by omega
              have hjlt : gJ < w6.heap.size := hJ6.lt (by rw [n21_eq]; omega)
              generalize w6.setCell ⟨gJ, 0, none⟩ (.bool true) = w7 at hJ7 hC7 hT7 hR7 hB7 ⊢
              clear hO hO6 hB6 hown6 hgrow6 hgJ hcJ7 hcJ hfJ hJ6 hnb hOn
              go_wp2_with fail
              go_loopw [19, 20, 21] (fun cc ff ii wr => ∃ i : Nat, i ≤ 21 ∧ ii = .int .i64 i ∧ cc = .int .i64 (cnt (jB ws vs) i : Nat) ∧ ff = .int .i64 (cnt (fB ws vs) i : Nat) ∧ ArrAt wr gJ n21 (fun j => .bool (jT ws vs i 0 j)) ∧ Chg (fun k => k = gJ) w7 wr) (fun _ _ ii _ => 21 - (intOf ii).toNat)
              case atStart => exact ⟨0, by omega, rfl, rfl, rfl, hJ7, Chg.refl _ _⟩
              case round =>
                clear hJ7
                obtain ⟨i, hi21, rfl, rfl, rfl, hJ, hcq⟩ := hrel
                have hcl := cnt_le (jB ws vs) i
                have hfl := cnt_le (fB ws vs) i
                by_cases hlt : i < 21
                · have hlt2 : (i : Int) ≤ 20 := by omega
                  have hin : (i : Int) < (n21 : Int) := by rw [n21_eq]; omega
                  have hinN : i < n21 := by rw [n21_eq]; omega
                  go_wp2_with fail
                  go_loopw [22] (fun kk wr => ∃ k : Nat, k ≤ i ∧ kk = .int .i64 k ∧ ArrAt wr gJ n21 (fun j => .bool (jT ws vs i k j)) ∧ Chg (fun k => k = gJ) w7 wr) (fun kk _ => i - (intOf kk).toNat)
                  case atStart => exact ⟨0, by omega, rfl, hJ, hcq⟩
                  case round =>
                    clear hJ hcq
                    obtain ⟨k, hk, rfl, hJ, hcq⟩ := hrel
                    by_cases hkl : k < i
                    · have hkl' : (k : Int) < (i : Int) := by omega
                      have hkn : (k : Int) < (n21 : Int) := by rw [n21_eq]; omega
                      have hknN : k < n21 := by rw [n21_eq]; omega
                      have c1 := hJ.c i hinN
                      have c1z := hJ.z i
                      have c2 := hJ.c k hknN
                      have hTq := hT7.kept hcq (fun e => hnW e.symm) (by omega)
                      have hRq := (hR7.out k (by omega)).kept hcq (fun e => HNB.out k (by omega) e.symm) (by omega)
                      have c3 := hTq.c k (by omega)
                      have c4 := hRq.c i (by omega)
                      have hjk : jT ws vs i k k = jB ws vs k := by unfold jT; rw [if_pos hkl]
                      have hmb := onw_bounds HWW.out hO2 (k : Int) (i : Int)
                      rw [← HM.out k i] at hmb
                      obtain ⟨ji, hji⟩ : ∃ ji, jT ws vs i k i = ji := ⟨_, rfl⟩
                      obtain ⟨jk, hjk'⟩ : ∃ jk, jB ws vs k = jk := ⟨_, rfl⟩
                      obtain ⟨m, hm⟩ : ∃ m, M k i = m := ⟨_, rfl⟩
                      have hlk : linkB ws vs k i = decide (2 * all ≤ 3 * m) := by unfold linkB; rw [HALL.out, ← HM.out k i, hm]
                      have HN : Hid (∀ j, jT ws vs i (k + 1) j = if j = i then (ji || (jk && decide (2 * all ≤ 3 * m))) else jT ws vs i k j) := fun j => by rw [jT_step, hji, hjk', hlk]
                      rw [hji] at c1
                      rw [hjk, hjk'] at c2
                      rw [hm] at c4 hmb
                      clear hji hjk hjk' hm hlk hTq hRq
                      have hset := fun (v : Value) (h1 : Value.bool (ji || (jk && decide (2 * all ≤ 3 * m))) = v) => hJ.set (f' := fun j => .bool (jT ws vs i (k + 1) j)) (k := i) hinN (v := v) (by rw [HN.out, if_pos rfl]; exact h1) (fun j _ hj => by rw [HN.out, if_neg hj])
                      have HSET : Hid _ := hset
                      clear hset HN hJ
                      cases ji
                      · cases jk
                        · go_wp2
                          go_roundw
                          case rel => exact ⟨k + 1, by omega, by go_num, HSET.out _ rfl, hcq.setCell (p := ⟨gJ, i, none⟩) (.inl rfl) _⟩
                          case measure => simp [intOf]; omega
                        · by_cases hd : 2 * all ≤ 3 * m
                          · have hd' : 3 * m ≥ 2 * all := hd
                            go_wp2
                            go_roundw
                            case rel => exact ⟨k + 1, by omega, by go_num, HSET.out _ (by simp [hd]), hcq.setCell (p := ⟨gJ, i, none⟩) (.inl rfl) _⟩
                            case measure => simp [intOf]; omega
                          · have hd' : ¬ 3 * m ≥ 2 * all := hd
                            go_wp2
                            go_roundw
                            case rel => exact ⟨k + 1, by omega, by go_num, HSET.out _ (by simp [hd]), hcq.setCell (p := ⟨gJ, i, none⟩) (.inl rfl) _⟩
                            case measure => simp [intOf]; omega
                      · go_wp2
                        go_roundw
                        case rel => exact ⟨k + 1, by omega, by go_num, HSET.out _ (by simp), hcq.setCell (p := ⟨gJ, i, none⟩) (.inl rfl) _⟩
                        case measure => simp [intOf]; omega
                    · have hki : k = i := by omega
                      subst hki
                      have c1 := hJ.c k hinN
                      have hje : jT ws vs k k k = jB ws vs k := by rw [jT_end ws vs (by omega), if_pos (Nat.le_refl _)]
                      rw [hje] at c1
                      have hJ' : ArrAt wr gJ n21 (fun j => .bool (jT ws vs (k + 1) 0 j)) := ⟨fun j hj => by rw [hJ.c j hj, jT_next ws vs (by omega)], hJ.z⟩
                      have hTq := hT7.kept hcq (fun e => hnW e.symm) (by omega)
                      have c3 := hTq.c k (by omega)
                      have HC1 : Hid _ := cnt_succ (jB ws vs) k
                      have HC2 : Hid _ := cnt_succ (fB ws vs) k
                      have HF : Hid (fB ws vs k = (jB ws vs k && (decide (k < 20) && linkB ws vs k ((k : Int) + 1)))) := rfl
                      obtain ⟨jk, hjk⟩ : ∃ jk, jB ws vs k = jk := ⟨_, rfl⟩
                      rw [hjk] at c1 HC1 HF
                      obtain ⟨n1, hn1⟩ : ∃ n, cnt (jB ws vs) k = n := ⟨_, rfl⟩
                      obtain ⟨n2, hn2⟩ : ∃ n, cnt (fB ws vs) k = n := ⟨_, rfl⟩
                      rw [hn1] at HC1 hcl ⊢
                      rw [hn2] at HC2 hfl ⊢
                      clear hje hjk hn1 hn2 hTq hJ
                      have fin : ∀ (f : Bool), fB ws vs k = f → (cnt (jB ws vs) (k + 1) = n1 + (if jk = true then 1 else 0) ∧ cnt (fB ws vs) (k + 1) = n2 + (if f = true then 1 else 0)) := fun f h => ⟨HC1.out, by rw [HC2.out, h]⟩
                      have HFIN : Hid _ := fin
                      clear fin HC1 HC2
                      cases jk
                      · have h9 := HFIN.out false (by rw [HF.out]; rfl)
                        have HN1 : Hid (cnt (jB ws vs) (k + 1) = n1) := by rw [h9.1]; simp [Hid]
                        have HN2 : Hid (cnt (fB ws vs) (k + 1) = n2) := by rw [h9.2]; simp [Hid]
                        clear h9
                        go_wp2
                        go_roundw
                        case rel => exact ⟨k + 1, by omega, by go_num, by rw [HN1.out], by rw [HN2.out], hJ', hcq⟩
                        case measure => simp [intOf]; omega
                      · by_cases hk20 : k < 20
                        · have hk20' : (k : Int) < 20 := by omega
                          have hRq := (hR7.out k (by omega)).kept hcq (fun e => HNB.out k (by omega) e.symm) (by omega)
                          have c4 := hRq.c (k + 1) (by omega)
                          have hmb := onw_bounds HWW.out hO2 (k : Int) ((k + 1 : Nat) : Int)
                          rw [← HM.out k (k + 1)] at hmb
                          obtain ⟨m, hm⟩ : ∃ m, M k (k + 1) = m := ⟨_, rfl⟩
                          have hlk : linkB ws vs k ((k : Int) + 1) = decide (2 * all ≤ 3 * m) := by
                            have := HM.out k (k + 1)
                            rw [hm] at this
                            unfold linkB
                            rw [HALL.out, this]
                            congr 1
                          rw [hm] at c4 hmb
                          have hcast : ((k + 1 : Nat) : Int) = (k : Int) + 1 := by omega
                          have hk1n : (k : Int) + 1 < (n21 : Int) := by rw [n21_eq]; omega
                          have hk1N : k + 1 < n21 := by rw [n21_eq]; omega
                          have htn : ((k : Int) + 1).toNat = k + 1 := by omega
                          have hFk : fB ws vs k = decide (2 * all ≤ 3 * m) := by rw [HF.out, hlk]; simp [hk20]
                          have h9 := HFIN.out _ hFk
                          clear hm hlk hRq hFk
                          have HN1 : Hid (cnt (jB ws vs) (k + 1) = n1 + 1) := by rw [h9.1]; simp [Hid]
                          by_cases hd : 2 * all ≤ 3 * m
                          · have hd' : 3 * m ≥ 2 * all := hd
                            have HN2 : Hid (cnt (fB ws vs) (k + 1) = n2 + 1) := by rw [h9.2]; simp [Hid, hd]
                            clear h9
                            go_wp2
                            go_roundw
                            case rel => exact ⟨k + 1, by omega, by go_num, by rw [HN1.out]; go_num, by rw [HN2.out]; go_num, hJ', hcq⟩
                            case measure => simp [intOf]; omega
                          · have hd' : ¬ 3 * m ≥ 2 * all := hd
                            have HN2 : Hid (cnt (fB ws vs) (k + 1) = n2) := by rw [h9.2]; simp [Hid, hd]
                            clear h9
                            go_wp2
                            go_roundw
                            case rel => exact ⟨k + 1, by omega, by go_num, by rw [HN1.out]; go_num, by rw [HN2.out], hJ', hcq⟩
                            case measure => simp [intOf]; omega
                        · have hk20' : ¬ (k : Int) < 20 := by omega
                          have h9 := HFIN.out false (by rw [HF.out]; simp [hk20])
                          have HN1 : Hid (cnt (jB ws vs) (k + 1) = n1 + 1) := by rw [h9.1]; simp [Hid]
                          have HN2 : Hid (cnt (fB ws vs) (k + 1) = n2) := by rw [h9.2]; simp [Hid]
                          clear h9
                          go_wp2
                          go_roundw
                          case rel => exact ⟨k + 1, by omega, by go_num, by rw [HN1.out]; go_num, by rw [HN2.out], hJ', hcq⟩
                          case measure => simp [intOf]; omega
                · have hi' : i = 21 := by omega
                  subst hi'
                  have hCe := hC7.kept hcq (fun k hk e => hJn (e ▸ hk))
                  have hBe : Below w1.heap.size w1 wr := hB7.trans (hcq.below hB7.size (fun k hk e => by omega))
                  have hTr := rowPs_tree (n := 20) (by omega)
                  have HJ : Hid (∀ j, j < 21 → wr.cell? ⟨gJ, j, none⟩ = some (.bool (jB ws vs j))) := fun j hj => by rw [hJ.c j (by rw [n21_eq]; omega)]; unfold jT; rw [if_pos hj]
                  have hj := just_at b S ws (rowPs 20) vs wv pv' vv' wr hCe hTr HWW.out hvl3 hO2
                  have hf := fun W hC => final_at b S ws (rowPs 20) vs wv pv' vv' W hC hTr HWW.out hvl3 hO2
                  have hg := fun W hC => guilty_at b S ws (rowPs 20) vs wv pv' vv' W hC hTr HWW.out hvl3 hO2
                  rw [onw_guilt HON.out] at hg
                  have HCj : Hid _ := just_count ws vs
                  have HCf : Hid _ := final_count ws vs
                  have hlj := justN_length ws (rowPs 20) vs 21
                  obtain ⟨Lj, hLj⟩ : ∃ L, justL ws (rowPs 20) vs = L := ⟨_, rfl⟩
                  obtain ⟨Lf, hLf⟩ : ∃ L, finalL ws (rowPs 20) vs = L := ⟨_, rfl⟩
                  have HMJ : Hid (∀ x ∈ Lj, 0 ≤ x ∧ x ≤ 20 ∧ jB ws vs x.toNat = true) := fun x hx => by
                    rw [← hLj] at hx
                    obtain ⟨h1, h2, h3⟩ := mem_justL hx
                    rw [rowPs_length] at h2
                    refine ⟨h1, by omega, ?_⟩
                    unfold jB
                    rw [Int.toNat_of_nonneg h1]
                    exact h3
                  rw [hLj] at hj HCj
                  rw [hLf] at hf HCf
                  have hl21 : Lj.length ≤ 21 := by rw [HCj.out]; exact cnt_le _ _
                  have hl21f : Lf.length ≤ 21 := by rw [HCf.out]; exact cnt_le _ _
                  rw [← HCj.out, ← HCf.out]
                  clear hLj hLf HCj HCf hlj hcl hfl hC7 hT7 hR7 hJ hcq hB7
                  go_wp2_with fail
                  refine hj.mono ?_
                  rintro e x1 ⟨⟨vj, rfl, hrj⟩, hCx1, hcx1⟩
                  clear hj
                  go_wp2_with fail
                  refine (hf _ hCx1).mono ?_
                  rintro e x2 ⟨⟨vf, rfl, hrf⟩, hCx2, hcx2⟩
                  clear hf
                  have hlt1 := hCe.lt
                  have hnj : ∀ k, vj.ownBlock = some k → ¬ S k := fun k hk hs => by have := (hrj.lt k hk).1; have := hlt1 k hs; omega
                  have hrj2 := hcx2.row hrj hnj
                  obtain ⟨pf, cf, rfl, _, _⟩ := ilies_of hrf
                  obtain ⟨pj, cj, rfl, _, _⟩ := ilies_of hrj2
                  have hbj : ((Lj.length : Int) != (Lj.length : Int)) = false := by simp
                  have hbf : ((Lf.length : Int) != (Lf.length : Int)) = false := by simp
                  go_wp2_with fail
                  refine (hg _ hCx2).mono ?_
                  rintro e x3 ⟨⟨vg, rfl, hrg⟩, hCx3, hcx3⟩
                  clear hg
                  have hrj3 := hcx3.row hrj2 hnj
                  obtain ⟨pj', cj', he, hIL, _⟩ := ilies_of hrj3
                  simp only [Value.slice.injEq, true_and] at he
                  obtain ⟨rfl, rfl⟩ := he
                  obtain ⟨cg, pg, hvg⟩ : ∃ cg pg, vg = .slice pg 0 cg := by
                    rcases hrg.2 with ⟨h1, _⟩ | ⟨g, cap, cur, h1, _⟩
                    · exact ⟨0, none, h1⟩
                    · exact ⟨cap, _, h1⟩
                  subst hvg
                  have low : ∀ {W W' : World}, Chg S W W' → Below w1.heap.size w1 W → Below w1.heap.size w1 W' := fun hc hB => hB.trans (hc.below hB.size (fun k hk hs => by have := hSlow k hs; omega))
                  have hBx := low hcx3 (low hcx2 (low hcx1 hBe))
                  have HJ3 : Hid (∀ j, j < 21 → x3.cell? ⟨gJ, j, none⟩ = some (.bool (jB ws vs j))) := fun j hj => hcx3.cell (hcx2.cell (hcx1.cell (HJ.out j hj) hJn) hJn) hJn
                  clear hrj hrj2 hrf hrg hcx1 hcx2 hcx3 hCx1 hCx2 hCx3 hCe hBe low HJ hlt1 hnj hrj3
                  go_wp2_with fail
                  go_loop [25] (fun ii => ∃ i : Nat, i ≤ Lj.length ∧ ii = .int .i64 i) (fun ii => Lj.length - (intOf ii).toNat)
                  case atStart => exact ⟨0, by omega, rfl⟩
                  case round =>
                    obtain ⟨i, hil, rfl⟩ := hrel
                    by_cases hlt : i < Lj.length
                    · have hlt' : (i : Int) < (Lj.length : Int) := by omega
                      rcases hIL with rfl | ⟨gj, rfl, hcj⟩
                      · simp at hlt
                      obtain ⟨x, hx⟩ : ∃ x, Lj[i]? = some x := ⟨_, List.getElem?_eq_getElem hlt⟩
                      have hcx : x3.cell? ⟨gj, i, none⟩ = some (I64 x) := by have h1 := hcj i hlt; rw [hx] at h1; exact h1
                      obtain ⟨m1, m2, m3⟩ := HMJ.out x (List.mem_of_getElem? hx)
                      have hcb := HJ3.out x.toNat (by omega)
                      rw [m3] at hcb
                      have b1 : ¬ x < 0 := by omega
                      have b2 : ¬ x > 20 := by omega
                      have b3 : x < (n21 : Int) := by rw [n21_eq]; omega
                      have b4 : x.toNat < n21 := by rw [n21_eq]; omega
                      clear hx hcj m3
                      go_wp2
                      go_round
                      case rel => exact ⟨i + 1, by omega, by go_num⟩
                      case measure => simp [intOf]; omega
                    · go_wp2
                      go_ret
                      exact ⟨rfl, hB1.trans (hBx.mono hB1.size)⟩
end Go.Proofs.Ytgebcnnenhgkcaa
