/- steps, justBlocks and Just: what each answers, in new memory; the Court is as it was. -/
import Derived.Test.YtgebcnnenhgkcaaStepsTo
namespace Go.Proofs.Ytgebcnnenhgkcaa
open Go.RowKit

/-- The numbers of steps, of each block. -/
def stepsC (ws ps : List Int) (vs : List Vt) : List Int := stepsL (linkB ws vs) ps ps.length
theorem stepsC_length (ws ps : List Int) (vs : List Vt) : (stepsC ws ps vs).length = ps.length := stepsL_length _ _ _

theorem stepsL_bounds (lk : Int → Int → Bool) (ps : List Int) (hT : Tree ps) (k : Nat) (hk : k ≤ ps.length) (j : Nat) : 0 ≤ (stepsL lk ps k)[j]?.getD 0 ∧ (stepsL lk ps k)[j]?.getD 0 ≤ 40 := by
  by_cases hj : j < k
  · have h1 := (stepsL_is lk hT).le (j : Int) (by omega) (by omega)
    have h2 := stAt_stable (lk := lk) (ps := ps) (s := (j : Int)) (by simpa using hj) hk
    unfold stAt at h2
    simp only [Int.toNat_natCast] at h2
    rw [h2]
    simpa [stAt] using h1
  · rw [List.getElem?_eq_none (by rw [stepsL_length]; omega)]; simp

/-- The numbers that are settled, and zeros behind them. -/
def settled (lk : Int → Int → Bool) (ps : List Int) (k : Nat) : List Int := stepsL lk ps k ++ List.replicate (ps.length - k) 0
theorem settled_length {lk : Int → Int → Bool} {ps : List Int} {k : Nat} (h : k ≤ ps.length) : (settled lk ps k).length = ps.length := by
  simp [settled, stepsL_length]; omega
theorem settled_get {lk : Int → Int → Bool} {ps : List Int} {k : Nat} (j : Nat) : (settled lk ps k)[j]?.getD 0 = (stepsL lk ps k)[j]?.getD 0 := by
  unfold settled
  by_cases hj : j < k
  · rw [List.getElem?_append_left (by rw [stepsL_length]; exact hj)]
  · rw [List.getElem?_append_right (by rw [stepsL_length]; omega), List.getElem?_eq_none (l := stepsL lk ps k) (by rw [stepsL_length]; omega)]
    by_cases h2 : j - (stepsL lk ps k).length < ps.length - k
    · simp [h2]
    · simp [h2]
theorem settled_next {lk : Int → Int → Bool} {ps : List Int} {k : Nat} (h : k < ps.length) : (settled lk ps k).set k (stepOf lk ps (settled lk ps k) k) = settled lk ps (k + 1) := by
  have e : stepOf lk ps (settled lk ps k) k = stepOf lk ps (stepsL lk ps k) k := stepOf_congr (fun s _ => by unfold stAt; exact settled_get _)
  rw [e]
  unfold settled
  rw [List.set_append, if_neg (by rw [stepsL_length]; omega), stepsL_length, Nat.sub_self, show ps.length - k = (ps.length - (k + 1)) + 1 by omega, List.replicate_succ, List.set_cons_zero]
  simp [stepsL]

theorem Nums.below {w w' : World} {g cap B : Nat} {A : Array Int} (h : Nums w g cap A) (hB : Below B w w') (hg : g < B) : Nums w' g cap A := by
  obtain ⟨cur, h1, h2⟩ := h
  exact ⟨cur, (hB.block g hg).trans h1, h2⟩
theorem Nums.lt {w : World} {g cap : Nat} {A : Array Int} (h : Nums w g cap A) : g < w.heap.size := by
  obtain ⟨cur, h1, _⟩ := h
  exact (Array.getElem?_eq_some_iff.1 h1).1

set_option maxRecDepth 100000 in
set_option maxHeartbeats 2000000 in
theorem steps_at (b : Nat) (S : Nat → Prop) (m : Int) (ws ps : List Int) (vs : List Vt) (wv pv vv : Value) (w : World) (h : CourtAt w b S m ws ps vs wv pv vv) (hT : Tree ps) (hW : OkWs ws) (hl : vs.length ≤ 300) (hO : OkV ws.length ps vs) :
    Calls Try.prog 65 #[.pointer (some ⟨b, 0, none⟩)] w fun e w' => (∃ g, e = .returned (.slice (some ⟨g, 0, none⟩) ps.length ps.length) ∧ w.heap.size ≤ g ∧ Nums w' g ps.length (stepsC ws ps vs).toArray) ∧ Below w.heap.size w w' := by
  obtain ⟨g0, cap0, rfl, _, _, hcs0, _⟩ := row_open h.prow hT.1
  have h3 := h.c3
  have hlen : ps.length ≤ 40 := hT.2.1
  obtain ⟨i0, hi, hz0, hz1, hz2⟩ := info_parts info_int
  clear hcs0
  go_enter Try.func65, Try.ntmps65
  have h63 : Hid (ps.length ≤ maxLen) := by show _ ≤ _; unfold maxLen; omega
  have hby : Hid (i0.bytes * ps.length ≤ 281474976710656) := by show _ ≤ _; rw [hz2]; omega
  clear hz2
  go_wp2_with fail
  refine (count_at b 3 (some ⟨g0, 0, none⟩) ps.length cap0 _ h3).mono ?_
  rintro e w' ⟨rfl, rfl⟩
  go_wp2_with (at_make; refine wpList_make_full _ (by rfl) _ _ _ (by rfl) 0 3 i0 (I64 0) 1 Try.underlying22 hi hz0 hz1 .i64 .i64 _ _ ps.length (by rfl) (by rfl) rfl rfl hby.out h63.out (Nat.zero_le _) ?_; intro w2 hown2 hgrow2)
  have hB2 : Below w'.heap.size w' w2 := (Below.refl _ w').grown hgrow2 (Nat.le_refl _) (fun k e => by cases e)
  have hstart : Hid (Nums w2 w'.heap.size ps.length (settled (linkB ws vs) ps 0).toArray) := by
    have e1 : (settled (linkB ws vs) ps 0).map I64 = List.replicate ps.length (I64 0) := by simp [settled, stepsL]
    have e2 : (madeCells (I64 0).cells (ps.length * 1)).toList = (settled (linkB ws vs) ps 0).map I64 := by
      rw [e1]
      simpa [Value.cells] using toList_madeCells_one (I64 0) (ps.length * 1)
    rw [e2] at hown2
    exact (row_nums hown2).2.1
  clear hown2 hgrow2
  go_loopw [12] (fun i wr => ∃ k : Nat, k ≤ ps.length ∧ i = .int .i64 k ∧ Below w'.heap.size w' wr ∧ Hid (Nums wr w'.heap.size ps.length (settled (linkB ws vs) ps k).toArray))
    (fun i _ => ps.length - (intOf i).toNat)
  case atStart => exact ⟨0, by omega, rfl, hB2, hstart⟩
  case round =>
    obtain ⟨k, hk, rfl, hB, hcur⟩ := hrel
    clear hstart hB2
    have hsz : (settled (linkB ws vs) ps k).length = ps.length := settled_length hk
    by_cases hlt : k < ps.length
    · have hlt' : (k : Int) < (ps.length : Int) := by omega
      have hgl := hcur.out.lt
      have hcells : ∀ j, j < ps.length → wr.cell? ⟨w'.heap.size, j, none⟩ = some (I64 ((settled (linkB ws vs) ps k)[j]?.getD 0)) := fun j hj => by
        have := (hcur.out.cell (j := j) (by simpa using (by omega : j < (settled (linkB ws vs) ps k).length))).1
        rw [this]
        congr 2
        rw [getElem!_pos _ _ (by simpa using (by omega : j < (settled (linkB ws vs) ps k).length))]
        simp [List.getElem?_eq_getElem (show j < (settled (linkB ws vs) ps k).length by omega)]
      have hC := h.kept (Chg.of_below (fun _ => False) hB) (fun _ _ hf => hf)
      have hstep : Calls Try.prog 84 #[.pointer (some ⟨b, 0, none⟩), .int .i64 k, .slice (some ⟨w'.heap.size, 0, none⟩) ps.length ps.length] wr fun e w3 => e = .returned (.int .i64 (stepOf (linkB ws vs) ps (settled (linkB ws vs) ps k) k)) ∧ Below wr.heap.size wr w3 := by
        by_cases h0 : k = 0
        · subst h0
          exact stepsTo_root b _ _ _ wr
        · exact stepsTo_in b S m ws ps (settled (linkB ws vs) ps k) vs _ _ _ w'.heap.size ps.length k wr hC hT hW hl hO hcells (fun j => by rw [settled_get]; exact stepsL_bounds _ _ hT k hk j) (by omega) (by omega)
      clear hcells
      go_wp2_with fail
      refine hstep.mono ?_
      rintro e w3 ⟨rfl, hB3⟩
      have hN3 := hcur.out.below hB3 hgl
      have hset := hN3.set (j := k) (by simpa using (by omega : k < (settled (linkB ws vs) ps k).length)) (stepOf (linkB ws vs) ps (settled (linkB ws vs) ps k) k)
      have hnx : (settled (linkB ws vs) ps k).toArray.set! k (stepOf (linkB ws vs) ps (settled (linkB ws vs) ps k) k) = (settled (linkB ws vs) ps (k + 1)).toArray := by
        rw [← settled_next hlt]; simp
      rw [hnx] at hset
      obtain ⟨hv, hf⟩ := hN3.cell (j := k) (by simpa using (by omega : k < (settled (linkB ws vs) ps k).length))
      generalize stepOf (linkB ws vs) ps (settled (linkB ws vs) ps k) k = z at hset ⊢
      generalize (settled (linkB ws vs) ps k).toArray[k]! = z2 at hv
      have HSET : Hid _ := hset
      clear hset hnx hstep hN3 hcur
      have hBn : Below w'.heap.size w' (w3.setCell ⟨w'.heap.size, k, none⟩ (I64 z)) := (hB.trans (hB3.mono hB.size)).setCell (p := ⟨w'.heap.size, k, none⟩) (Nat.le_refl _) _
      go_wp2
      go_roundw
      case rel => exact ⟨k + 1, by omega, by go_num, hBn, HSET.out⟩
      case measure => simp [intOf]; omega
    · have hk' : k = ps.length := by omega
      subst hk'
      go_wp2
      go_ret
      refine ⟨⟨w'.heap.size, rfl, Nat.le_refl _, ?_⟩, hB⟩
      have := hcur.out
      simpa [settled, stepsC] using this
end Go.Proofs.Ytgebcnnenhgkcaa
