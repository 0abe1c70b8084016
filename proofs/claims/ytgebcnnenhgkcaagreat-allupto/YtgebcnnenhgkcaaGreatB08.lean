/- steps, justBlocks and Just: what each answers, in new memory; the Court is as it was. -/
import Derived.Test.YtgebcnnenhgkcaaGreatB07
import Derived.Test.YtgebcnnenhgkcaaGreatB03
namespace Go.Proofs.YtgebcnnenhgkcaaGreat
open Go.RowKit

/-- The numbers of steps, of each block. -/
def stepsC (ws ps : List Int) (vs : List Vt) : List Int := stepsL (linkB ws vs) ps ps.length
theorem stepsC_length (ws ps : List Int) (vs : List Vt) : (stepsC ws ps vs).length = ps.length := stepsL_length _ _ _

theorem stepsL_bounds (lk : Int → Int → Bool) (ps : List Int) (hT : Tree ps) (k : Nat) (hk : k ≤ ps.length) (j : Nat) : 0 ≤ (stepsL lk ps k)[j]?.getD 0 ∧ (stepsL lk ps k)[j]?.getD 0 ≤ 40 := by
  by_cases hj : j < k
  · have h1 := (stepsL_is lk hT).le (j : Int) (by omega) (by omega)
    have h2 := stAt_stable (lk := lk) (ps := ps) (s := (j : Int)) (by simpa using hj) hk
    unfold stAt at h2
    simp only [Int.toNat_natCast] at h2
    rw [h2]
    simpa [stAt] using h1
  · rw [List.getElem?_eq_none (by rw [stepsL_length]; omega)]; simp

/-- The numbers that are settled, and zeros behind them. -/
def settled (lk : Int → Int → Bool) (ps : List Int) (k : Nat) : List Int := stepsL lk ps k ++ List.replicate (ps.length - k) 0
theorem settled_length {lk : Int → Int → Bool} {ps : List Int} {k : Nat} (h : k ≤ ps.length) : (settled lk ps k).length = ps.length := by
  simp [settled, stepsL_length]; omega
theorem settled_get {lk : Int → Int → Bool} {ps : List Int} {k : Nat} (j : Nat) : (settled lk ps k)[j]?.getD 0 = (stepsL lk ps k)[j]?.getD 0 := by
  unfold settled
  by_cases hj : j < k
  · rw [List.getElem?_append_left (by rw [stepsL_length]; exact hj)]
  · rw [List.getElem?_append_right (by rw [stepsL_length]; omega), List.getElem?_eq_none (l := stepsL lk ps k) (by rw [stepsL_length]; omega)]
    by_cases h2 : j - (stepsL lk ps k).length < ps.length - k
    · simp [h2]
    · simp [h2]
theorem settled_next {lk : Int → Int → Bool} {ps : List Int} {k : Nat} (h : k < ps.length) : (settled lk ps k).set k (stepOf lk ps (settled lk ps k) k) = settled lk ps (k + 1) := by
  have e : stepOf lk ps (settled lk ps k) k = stepOf lk ps (stepsL lk ps k) k := stepOf_congr (fun s _ => by unfold stAt; exact settled_get _)
  rw [e]
  unfold settled
  rw [List.set_append, if_neg (by rw [stepsL_length]; omega), stepsL_length, Nat.sub_self, show ps.length - k = (ps.length - (k + 1)) + 1 by omega, List.replicate_succ, List.set_cons_zero]
  simp [stepsL]

theorem Nums.below {w w' : World} {g cap B : Nat} {A : Array Int} (h : Nums w g cap A) (hB : Below B w w') (hg : g < B) : Nums w' g cap A := by
  obtain ⟨cur, h1, h2⟩ := h
  exact ⟨cur, (hB.block g hg).trans h1, h2⟩
theorem Nums.lt {w : World} {g cap : Nat} {A : Array Int} (h : Nums w g cap A) : g < w.heap.size := by
  obtain ⟨cur, h1, _⟩ := h
  exact (Array.getElem?_eq_some_iff.1 h1).1

set_option maxRecDepth 100000 in
set_option maxHeartbeats 2000000 in
theorem steps_at (b : Nat) (S : Nat → Prop) (m : Int) (ws ps : List Int) (vs : List Vt) (wv pv vv : Value) (w : World) (h : CourtAt w b S m ws ps vs wv pv vv) (hT : Tree ps) (hW : OkWs ws) (hl : vs.length ≤ 300) (hO : OkV ws.length ps vs) :
    Calls Tryz.prog 90 #[.pointer (some ⟨b, 0, none⟩)] w fun e w' => (∃ g, e = .returned (.slice (some ⟨g, 0, none⟩) ps.length ps.length) ∧ w.heap.size ≤ g ∧ Nums w' g ps.length (stepsC ws ps vs).toArray) ∧ Below w.heap.size w w' := by
  obtain ⟨g0, cap0, rfl, _, _, hcs0, _⟩ := row_open h.prow hT.1
  have h3 := h.c3
  have hlen : ps.length ≤ 40 := hT.2.1
  obtain ⟨i0, hi, hz0, hz1, hz2⟩ := info_parts info_int
  clear hcs0
  go_enter Tryz.func90, Tryz.ntmps90
  have h63 : Hid (ps.length ≤ maxLen) := by show _ ≤ _; unfold maxLen; omega
  have hby : Hid (i0.bytes * ps.length ≤ 281474976710656) := by show _ ≤ _; rw [hz2]; omega
  clear hz2
  go_wp2_with fail
  refine (count_at b 3 (some ⟨g0, 0, none⟩) ps.length cap0 _ h3).mono ?_
  rintro e w' ⟨rfl, rfl⟩
  go_wp2_with (at_make; refine wpList_make_full _ (by rfl) _ _ _ (by rfl) 0 3 i0 (I64 0) 1 Tryz.underlying22 hi hz0 hz1 .i64 .i64 _ _ ps.length (by rfl) (by rfl) rfl rfl hby.out h63.out (Nat.zero_le _) ?_; intro w2 hown2 hgrow2)
  have hB2 : Below w'.heap.size w' w2 := (Below.refl _ w').grown hgrow2 (Nat.le_refl _) (fun k e => by cases e)
  have hstart : Hid (Nums w2 w'.heap.size ps.length (settled (linkB ws vs) ps 0).toArray) := by
    have e1 : (settled (linkB ws vs) ps 0).map I64 = List.replicate ps.length (I64 0) := by simp [settled, stepsL]
    have e2 : (madeCells (I64 0).cells (ps.length * 1)).toList = (settled (linkB ws vs) ps 0).map I64 := by
      rw [e1]
      simpa [Value.cells] using toList_madeCells_one (I64 0) (ps.length * 1)
    rw [e2] at hown2
    exact (row_nums hown2).2.1
  clear hown2 hgrow2
  go_loopw [12] (fun i wr => ∃ k : Nat, k ≤ ps.length ∧ i = .int .i64 k ∧ Below w'.heap.size w' wr ∧ Hid (Nums wr w'.heap.size ps.length (settled (linkB ws vs) ps k).toArray))
    (fun i _ => ps.length - (intOf i).toNat)
  case atStart => exact ⟨0, by omega, rfl, hB2, hstart⟩
  case round =>
    obtain ⟨k, hk, rfl, hB, hcur⟩ := hrel
    clear hstart hB2
    have hsz : (settled (linkB ws vs) ps k).length = ps.length := settled_length hk
    by_cases hlt : k < ps.length
    · have hlt' : (k : Int) < (ps.length : Int) := by omega
      have hgl := hcur.out.lt
      have hcells : ∀ j, j < ps.length → wr.cell? ⟨w'.heap.size, j, none⟩ = some (I64 ((settled (linkB ws vs) ps k)[j]?.getD 0)) := fun j hj => by
        have := (hcur.out.cell (j := j) (by simpa using (by omega : j < (settled (linkB ws vs) ps k).length))).1
        rw [this]
        congr 2
        rw [getElem!_pos _ _ (by simpa using (by omega : j < (settled (linkB ws vs) ps k).length))]
        simp [List.getElem?_eq_getElem (show j < (settled (linkB ws vs) ps k).length by omega)]
      have hC := h.kept (Chg.of_below (fun _ => False) hB) (fun _ _ hf => hf)
      have hstep : Calls Tryz.prog 114 #[.pointer (some ⟨b, 0, none⟩), .int .i64 k, .slice (some ⟨w'.heap.size, 0, none⟩) ps.length ps.length] wr fun e w3 => e = .returned (.int .i64 (stepOf (linkB ws vs) ps (settled (linkB ws vs) ps k) k)) ∧ Below wr.heap.size wr w3 := by
        by_cases h0 : k = 0
        · subst h0
          exact stepsTo_root b _ _ _ wr
        · exact stepsTo_in b S m ws ps (settled (linkB ws vs) ps k) vs _ _ _ w'.heap.size ps.length k wr hC hT hW hl hO hcells (fun j => by rw [settled_get]; exact stepsL_bounds _ _ hT k hk j) (by omega) (by omega)
      clear hcells
      go_wp2_with fail
      refine hstep.mono ?_
      rintro e w3 ⟨rfl, hB3⟩
      have hN3 := hcur.out.below hB3 hgl
      have hset := hN3.set (j := k) (by simpa using (by omega : k < (settled (linkB ws vs) ps k).length)) (stepOf (linkB ws vs) ps (settled (linkB ws vs) ps k) k)
      have hnx : (settled (linkB ws vs) ps k).toArray.set! k (stepOf (linkB ws vs) ps (settled (linkB ws vs) ps k) k) = (settled (linkB ws vs) ps (k + 1)).toArray := by
        rw [← settled_next hlt]; simp
      rw [hnx] at hset
      obtain ⟨hv, hf⟩ := hN3.cell (j := k) (by simpa using (by omega : k < (settled (linkB ws vs) ps k).length))
      generalize stepOf (linkB ws vs) ps (settled (linkB ws vs) ps k) k = z at hset ⊢
      generalize (settled (linkB ws vs) ps k).toArray[k]! = z2 at hv
      have HSET : Hid _ := hset
      clear hset hnx hstep hN3 hcur
      have hBn : Below w'.heap.size w' (w3.setCell ⟨w'.heap.size, k, none⟩ (I64 z)) := (hB.trans (hB3.mono hB.size)).setCell (p := ⟨w'.heap.size, k, none⟩) (Nat.le_refl _) _
      go_wp2
      go_roundw
      case rel => exact ⟨k + 1, by omega, by go_num, hBn, HSET.out⟩
      case measure => simp [intOf]; omega
    · have hk' : k = ps.length := by omega
      subst hk'
      go_wp2
      go_ret
      refine ⟨⟨w'.heap.size, rfl, Nat.le_refl _, ?_⟩, hB⟩
      have := hcur.out
      simpa [settled, stepsC] using this
end Go.Proofs.YtgebcnnenhgkcaaGreat
/- justBlocks, Just, linkedChild, finalBlocks, Final. -/
namespace Go.Proofs.YtgebcnnenhgkcaaGreat
open Go.RowKit

theorem row_lower {w : World} {base base' : Nat} {e : TypeId} {size : Nat} {v : Value} {n : Nat} {xs : List Value} (h : w.ownsRow base e size v n xs) (hb : base' ≤ base) : w.ownsRow base' e size v n xs := by
  refine ⟨h.1, ?_⟩
  rcases h.2 with h' | ⟨g, cap, cur, h1, h2, h3⟩
  · exact .inl h'
  · exact .inr ⟨g, cap, cur, h1, Nat.le_trans hb h2, h3⟩
theorem row_set {w : World} {base : Nat} {e : TypeId} {size : Nat} {v : Value} {n : Nat} {xs : List Value} (h : w.ownsRow base e size v n xs) (b o : Nat) (u : Value) (hb : b < base) : (w.setCell ⟨b, o, none⟩ u).ownsRow base e size v n xs := by
  refine ⟨h.1, ?_⟩
  rcases h.2 with h' | ⟨g, cap, cur, h1, h2, h3, h4⟩
  · exact .inl h'
  · exact .inr ⟨g, cap, cur, h1, h2, (Below.heap_setCell _ _ _ _ (by show g ≠ b; omega)).trans h3, h4⟩
theorem row_below {w w' : World} {base B : Nat} {e : TypeId} {size : Nat} {v : Value} {n : Nat} {xs : List Value} (h : w.ownsRow base e size v n xs) (hB : Below B w w') (hb : w.heap.size ≤ B) : w'.ownsRow base e size v n xs := by
  refine ⟨h.1, ?_⟩
  rcases h.2 with h' | ⟨g, cap, cur, h1, h2, h3, h4⟩
  · exact .inl h'
  · exact .inr ⟨g, cap, cur, h1, h2, (hB.block g (by have := (Array.getElem?_eq_some_iff.1 h3).1; omega)).trans h3, h4⟩

def isJust (ws ps : List Int) (vs : List Vt) (b : Int) : Bool := stAt (stepsC ws ps vs) b != 40
/-- The blocks below k that are just, rising. -/
def justN (ws ps : List Int) (vs : List Vt) (k : Nat) : List Int := ((List.range k).map (fun i : Nat => (i : Int))).filter (isJust ws ps vs)
def justL (ws ps : List Int) (vs : List Vt) : List Int := justN ws ps vs ps.length
theorem justN_succ (ws ps : List Int) (vs : List Vt) (k : Nat) : justN ws ps vs (k + 1) = justN ws ps vs k ++ (if isJust ws ps vs k = true then [(k : Int)] else []) := by
  unfold justN
  rw [List.range_succ, List.map_append, List.filter_append]
  congr 1
  by_cases h : isJust ws ps vs k = true <;> simp [h]
theorem justN_length (ws ps : List Int) (vs : List Vt) (k : Nat) : (justN ws ps vs k).length ≤ k := by
  unfold justN
  exact Nat.le_trans (List.length_filter_le _ _) (by simp)
theorem mem_justL {ws ps : List Int} {vs : List Vt} {x : Int} (h : x ∈ justL ws ps vs) : 0 ≤ x ∧ x.toNat < ps.length ∧ isJust ws ps vs x = true := by
  unfold justL justN at h
  simp only [List.mem_filter, List.mem_map, List.mem_range] at h
  obtain ⟨⟨i, hi, rfl⟩, h2⟩ := h
  exact ⟨by omega, by omega, h2⟩

set_option maxRecDepth 100000 in
set_option maxHeartbeats 2000000 in
theorem justBlocks_at (b : Nat) (S : Nat → Prop) (m : Int) (ws ps : List Int) (vs : List Vt) (wv pv vv : Value) (w : World) (h : CourtAt w b S m ws ps vs wv pv vv) (hT : Tree ps) (hW : OkWs ws) (hl : vs.length ≤ 300) (hO : OkV ws.length ps vs) :
    Calls Tryz.prog 51 #[.pointer (some ⟨b, 0, none⟩)] w fun e w' => (∃ v, e = .returned v ∧ w'.ownsRow w.heap.size 3 1 v (justL ws ps vs).length ((justL ws ps vs).map I64)) ∧ Below w.heap.size w w' := by
  obtain ⟨i0, hi, hz0, hz1, hz2⟩ := info_parts info_int
  have hlen : ps.length ≤ 40 := hT.2.1
  go_enter Tryz.func51, Tryz.ntmps51
  go_wp2_with fail
  refine (steps_at b S m ws ps vs _ _ _ _ h hT hW hl hO).mono ?_
  rintro e w1 ⟨⟨g, rfl, hg, hN⟩, hB1⟩
  go_wp2
  have hsz : (stepsC ws ps vs).toArray.size = ps.length := by simp [stepsC_length]
  have hgl := hN.lt
  go_loopw [3, 9] (fun v i wr => ∃ k : Nat, k ≤ ps.length ∧ i = .int .i64 k ∧ Below w1.heap.size w1 wr ∧ wr.ownsRow w1.heap.size 3 1 v (justN ws ps vs k).length ((justN ws ps vs k).map I64)) (fun _ i _ => ps.length - (intOf i).toNat)
  case atStart => exact ⟨0, by omega, rfl, Below.refl _ _, World.ownsRow_nil _ _ _ _⟩
  case round =>
    obtain ⟨k, hk, rfl, hB, hown⟩ := hrel
    have hz := hB.size
    by_cases hlt : k < ps.length
    · have hlt' : (k : Int) < (ps.length : Int) := by omega
      obtain ⟨x, hx⟩ : ∃ x, (stepsC ws ps vs).toArray[k]! = x := ⟨_, rfl⟩
      have hc : wr.cell? ⟨g, k, none⟩ = some (I64 x) := by
        rw [← hx]; exact ((hN.below hB hgl).cell (j := k) (by omega)).1
      have HJ : Hid (isJust ws ps vs k = (x != 40)) := by
        show _ = _
        unfold isJust stAt
        rw [← hx, getElem!_pos _ _ (by omega)]
        simp [List.getElem?_eq_getElem (show k < (stepsC ws ps vs).length by rw [stepsC_length]; exact hlt)]
      have HS : Hid _ := justN_succ ws ps vs k
      have hnk := justN_length ws ps vs k
      clear hx
      obtain ⟨n, hn⟩ : ∃ n, (justN ws ps vs k).length = n := ⟨_, rfl⟩
      obtain ⟨xs, hxs⟩ : ∃ xs, (justN ws ps vs k).map I64 = xs := ⟨_, rfl⟩
      rw [hn, hxs] at hown
      rw [hn] at hnk
      have HX : Hid ((justN ws ps vs k).map I64 = xs) := hxs
      have HL : Hid ((justN ws ps vs k).length = n) := hn
      clear hxs hn
      by_cases h40 : x = 40
      · have q : (x != 40) = false := by simpa using h40
        have HJ' : Hid (isJust ws ps vs k = false) := HJ.out.trans q
        clear h40 HJ
        go_wp2
        go_roundw
        case rel => exact ⟨k + 1, by omega, by go_num, hB, by rw [HS.out, HJ'.out]; simp only [Bool.false_eq_true, if_false, List.append_nil]; rw [HX.out, HL.out]; exact hown⟩
        case measure => simp [intOf]; omega
      · have q : (x != 40) = true := by simpa using h40
        have HJ' : Hid (isJust ws ps vs k = true) := HJ.out.trans q
        clear h40 HJ
        have h63 : Hid (n + 1 ≤ maxLen) := by show _ ≤ _; unfold maxLen; omega
        go_wp2_with (at_builtin; refine wpList_append_own _ (by rfl) _ _ _ (by rfl) w1.heap.size 3 i0 (I64 0) 1 8 Tryz.underlying22 hi hz0 hz1 hz2 rfl (by omega) _ n xs (by rfl) (hown.alloc _) ⟨wr.heap.size, 0, none⟩ 1 1 [I64 k] (by rfl) (by rfl) (cell_one_new _ _ _) (by simp [Value.oneCell']) h63.out (by omega) (by simp; omega) ?_; intro v1 w2 hown1 hgrow1 hnil1)
        go_roundw
        case rel => exact ⟨k + 1, by omega, by go_num, (hB.alloc hz _).grown hgrow1 (by simp; omega) (fun j e => (hown.lt j e).1), by rw [HS.out, if_pos HJ'.out, List.map_append, HX.out, List.length_append, HL.out]; exact hown1⟩
        case measure => simp [intOf]; omega
    · have hk' : k = ps.length := by omega
      subst hk'
      go_wp2
      go_ret
      exact ⟨⟨_, rfl, row_lower hown hB1.size⟩, hB1.trans (hB.mono hB1.size)⟩

set_option maxHeartbeats 1000000 in
theorem just_at (b : Nat) (S : Nat → Prop) (ws ps : List Int) (vs : List Vt) (wv pv vv : Value) (w : World) (h : CourtAt w b S 0 ws ps vs wv pv vv) (hT : Tree ps) (hW : OkWs ws) (hl : vs.length ≤ 300) (hO : OkV ws.length ps vs) :
    Calls Tryz.prog 15 #[.pointer (some ⟨b, 0, none⟩)] w fun e w' => (∃ v, e = .returned v ∧ w'.ownsRow w.heap.size 3 1 v (justL ws ps vs).length ((justL ws ps vs).map I64)) ∧ CourtAt w' b S 0 ws ps vs wv pv vv ∧ Chg S w w' := by
  obtain ⟨gw, capw, rfl, _, _, _, _⟩ := row_open h.wrow hW.pos
  obtain ⟨h1, c1⟩ := h.setM 1
  have hd : decide (0 < ws.length) = true := by simpa using hW.pos
  go_enter_defers Tryz.func15, Tryz.ntmps15
  go_wp2_with fail
  refine (lock_at b 0 _ h.c0 (h.fz 0)).mono ?_
  rintro e w1 ⟨rfl, hw1⟩
  rw [← hw1] at h1 c1
  clear hw1
  go_wp2_with fail
  refine (made_at b 0 _ _ _ _ h1.c2).mono ?_
  rintro e w2 ⟨rfl, rfl⟩
  rw [hd]
  go_wp2_with fail
  refine (justBlocks_at b S 1 ws ps vs _ pv vv _ h1 hT hW hl hO).mono ?_
  rintro e w4 ⟨⟨v, rfl, hrow⟩, hB5⟩
  have h4 := h1.kept (Chg.of_below (fun _ => False) hB5) (fun _ _ hf => hf)
  go_wp2_with fail
  refine leaves_cons (f := 33) (args := #[.pointer (some ⟨b, 0, none⟩)]) (by simp) (by simp [go_sem]) ?_
  refine (unlock_at b 0 .returning _ h4.c0 (h4.fz 0)).mono ?_
  rintro e u' w'' ⟨rfl, rfl, rfl⟩
  obtain ⟨h5, c5⟩ := h4.setM 0
  exact ⟨_, results_tmp rfl _ _ _, ⟨_, rfl, row_lower (row_set hrow b 0 _ (h1.lt b h1.inb)) c1.size⟩, h5, (c1.trans (Chg.of_below S hB5)).trans c5⟩

theorem isParent_at (b o g cap : Nat) (ps : List Int) (a k : Int) (w : World) (hA : TreeAt w b o g cap ps) (hk0 : 0 ≤ k) (hk1 : k.toNat < ps.length) :
    Calls Tryz.prog 119 #[.pointer (some ⟨b, o, none⟩), .int .i64 a, .int .i64 k] w fun e w' => e = .returned (.bool (k != 0 && ps[k.toNat]?.getD 0 == a)) ∧ Below w.heap.size w w' := by
  have hpv := hA.pv
  obtain ⟨p, hp⟩ : ∃ p, ps[k.toNat]?.getD 0 = p := ⟨_, rfl⟩
  have hc : w.cell? ⟨g, k.toNat, none⟩ = some (I64 p) := by rw [← hp]; exact hA.cs _ hk1
  have HP : Hid (ps[k.toNat]?.getD 0 = p) := hp
  clear hp
  by_cases h0 : k = 0
  · subst h0
    go_enter Tryz.func119, Tryz.ntmps119
    go_wp2
    go_ret
    exact ⟨rfl, Below.refl _ _⟩
  · have q : (k != 0) = true := by simpa using h0
    have hkl : k < (ps.length : Int) := by omega
    go_enter Tryz.func119, Tryz.ntmps119
    go_wp2_with (go_at_call 86; refine (has_at b o (some ⟨g, 0, none⟩) ps.length cap k _ hpv).mono ?_; rintro e w' ⟨rfl, rfl⟩; rw [hasB_true hk0 hkl])
    go_ret
    exact ⟨by rw [HP.out, q]; rfl, Below.refl _ _⟩

/-- A child of a block, and enough have voted for a link from it to the child. -/
def isChild (ws ps : List Int) (vs : List Vt) (b c : Int) : Bool := (c != 0 && ps[c.toNat]?.getD 0 == b) && linkB ws vs b c
def childN (ws ps : List Int) (vs : List Vt) (b : Int) (k : Nat) : Option Int := ((List.range k).map (fun i : Nat => (i : Int))).find? (isChild ws ps vs b)
def childF (ws ps : List Int) (vs : List Vt) (b : Int) : Option Int := childN ws ps vs b ps.length
theorem childN_succ (ws ps : List Int) (vs : List Vt) (b : Int) (k : Nat) (h : childN ws ps vs b k = none) : childN ws ps vs b (k + 1) = if isChild ws ps vs b k = true then some (k : Int) else none := by
  unfold childN at *
  rw [List.range_succ, List.map_append, List.find?_append, h]
  by_cases h2 : isChild ws ps vs b k = true
  · simp [h2]
  · simp only [List.map_cons, List.map_nil, List.find?_cons, h2, List.find?_nil]; simp
theorem childN_some {ws ps : List Int} {vs : List Vt} {b : Int} {k n : Nat} {x : Int} (h : childN ws ps vs b k = some x) (hk : k ≤ n) : childN ws ps vs b n = some x := by
  obtain ⟨d, rfl⟩ : ∃ d, n = k + d := ⟨n - k, by omega⟩
  unfold childN at *
  rw [List.range_add, List.map_append, List.find?_append, h]; rfl
abbrev chN : Option Int → Int
  | some x => x
  | none => 0

set_option maxRecDepth 100000 in
set_option maxHeartbeats 2000000 in
theorem linkedChild_at (b : Nat) (S : Nat → Prop) (m : Int) (ws ps : List Int) (vs : List Vt) (wv pv vv : Value) (a : Int) (w : World) (h : CourtAt w b S m ws ps vs wv pv vv) (hT : Tree ps) (hW : OkWs ws) (hl : vs.length ≤ 300) (hO : OkV ws.length ps vs) :
    Calls Tryz.prog 96 #[.pointer (some ⟨b, 0, none⟩), .int .i64 a] w fun e w' => e = .returned (.tuple #[.int .i64 (chN (childF ws ps vs a)), .bool (childF ws ps vs a).isSome]) ∧ Below w.heap.size w w' := by
  obtain ⟨g0, cap0, rfl, _, _, hcs0, _⟩ := row_open h.prow hT.1
  have hA : TreeAt w b 3 g0 cap0 ps := ⟨h.c3, hcs0⟩
  have h3 := h.c3
  have hlb := hA.lt_b
  have hlg := hA.lt_g hT.1
  have hlen : ps.length ≤ 40 := hT.2.1
  clear hcs0
  go_enter Tryz.func96, Tryz.ntmps96
  go_wp2_with fail
  refine (count_at b 3 (some ⟨g0, 0, none⟩) ps.length cap0 _ h3).mono ?_
  rintro e w' ⟨rfl, rfl⟩
  go_wp2
  go_loopw [11] (fun i wr => ∃ k : Nat, k ≤ ps.length ∧ i = .int .i64 k ∧ Below w'.heap.size w' wr ∧ Hid (childN ws ps vs a k = none)) (fun i _ => ps.length - (intOf i).toNat)
  case atStart => exact ⟨0, by omega, rfl, Below.refl _ _, rfl⟩
  case round =>
    obtain ⟨k, hk, rfl, hB, hno⟩ := hrel
    by_cases hlt : k < ps.length
    · have hlt' : (k : Int) < (ps.length : Int) := by omega
      have hA' := hA.below hB hlb hlg
      have hC := h.kept (Chg.of_below (fun _ => False) hB) (fun _ _ hf => hf)
      have HN := childN_succ ws ps vs a k hno.out
      have hpar := isParent_at b 3 g0 cap0 ps a k wr hA' (by omega) (by omega)
      cases hp : ((k : Int) != 0 && ps[(k : Int).toNat]?.getD 0 == a)
      · rw [hp] at hpar
        have HC : Hid (isChild ws ps vs a k = false) := by show _ = _; unfold isChild; rw [hp]; rfl
        clear hp
        have HN' : Hid (childN ws ps vs a (k + 1) = none) := by show _ = _; rw [HN, HC.out]; rfl
        clear HN
        go_wp2_with fail
        refine hpar.mono ?_
        rintro e w3 ⟨rfl, hB3⟩
        go_wp2
        go_roundw
        case rel => exact ⟨k + 1, by omega, by go_num, hB.trans (hB3.mono hB.size), HN'⟩
        case measure => simp [intOf]; omega
      · rw [hp] at hpar
        have HC : Hid (isChild ws ps vs a k = linkB ws vs a k) := by show _ = _; unfold isChild; rw [hp]; rfl
        clear hp
        go_wp2_with fail
        refine hpar.mono ?_
        rintro e w3 ⟨rfl, hB3⟩
        have hC3 := hC.kept (Chg.of_below (fun _ => False) hB3) (fun _ _ hf => hf)
        go_wp2_with fail
        refine (enough_at b S m ws ps vs _ _ _ a k _ hC3 hW hl hO).mono ?_
        rintro e w4 ⟨rfl, hB4⟩
        have hB5 : Below w'.heap.size w' w4 := (hB.trans (hB3.mono hB.size)).trans (hB4.mono (Nat.le_trans hB.size hB3.size))
        cases hlk : linkB ws vs a k
        · have HN' : Hid (childN ws ps vs a (k + 1) = none) := by show _ = _; rw [HN, HC.out, hlk]; rfl
          clear HN hlk HC
          go_wp2
          go_roundw
          case rel => exact ⟨k + 1, by omega, by go_num, hB5, HN'⟩
          case measure => simp [intOf]; omega
        · have HN' : Hid (childF ws ps vs a = some (k : Int)) := by
            show _ = _
            exact childN_some (k := k + 1) (by rw [HN, HC.out, hlk]; rfl) (by omega)
          clear HN hlk HC
          go_wp2
          go_ret2
          exact ⟨by rw [HN'.out]; rfl, hB5⟩
    · have hk' : k = ps.length := by omega
      subst hk'
      go_wp2
      go_ret2
      have : childF ws ps vs a = none := hno.out
      exact ⟨by rw [this]; rfl, hB⟩

def finalL (ws ps : List Int) (vs : List Vt) : List Int := (justL ws ps vs).filter (fun x => (childF ws ps vs x).isSome)

set_option maxRecDepth 100000 in
set_option maxHeartbeats 2000000 in
theorem finalBlocks_at (b : Nat) (S : Nat → Prop) (m : Int) (ws ps : List Int) (vs : List Vt) (wv pv vv : Value) (w : World) (h : CourtAt w b S m ws ps vs wv pv vv) (hT : Tree ps) (hW : OkWs ws) (hl : vs.length ≤ 300) (hO : OkV ws.length ps vs) :
    Calls Tryz.prog 58 #[.pointer (some ⟨b, 0, none⟩)] w fun e w' => (∃ v, e = .returned v ∧ w'.ownsRow w.heap.size 3 1 v (finalL ws ps vs).length ((finalL ws ps vs).map I64)) ∧ Below w.heap.size w w' := by
  obtain ⟨i0, hi, hz0, hz1, hz2⟩ := info_parts info_int
  have hlen : ps.length ≤ 40 := hT.2.1
  go_enter Tryz.func58, Tryz.ntmps58
  go_wp2_with fail
  refine (justBlocks_at b S m ws ps vs _ _ _ _ h hT hW hl hO).mono ?_
  rintro e w1 ⟨⟨v, rfl, hrow⟩, hB1⟩
  obtain ⟨vp, vc, hvv⟩ : ∃ vp vc, v = .slice vp (justL ws ps vs).length vc := by
    rcases hrow.2 with ⟨h', h''⟩ | ⟨g, cap, cur, h', _⟩
    · exact ⟨none, 0, by rw [h', h'']⟩
    · exact ⟨_, _, h'⟩
  subst hvv
  have hjl : (justL ws ps vs).length ≤ ps.length := justN_length ws ps vs ps.length
  obtain ⟨l, hll⟩ : ∃ l, justL ws ps vs = l := ⟨_, rfl⟩
  have HLL : Hid (justL ws ps vs = l) := hll
  rw [hll] at hrow hjl ⊢
  clear hll
  go_wp2
  go_loopw [3, 11] (fun v i wr => ∃ k : Nat, k ≤ l.length ∧ i = .int .i64 k ∧ Below w1.heap.size w1 wr ∧ wr.ownsRow w1.heap.size 3 1 v ((l.take k).filter (fun x => (childF ws ps vs x).isSome)).length (((l.take k).filter (fun x => (childF ws ps vs x).isSome)).map I64)) (fun _ i _ => l.length - (intOf i).toNat)
  case atStart => exact ⟨0, by omega, rfl, Below.refl _ _, World.ownsRow_nil _ _ _ _⟩
  case round =>
    obtain ⟨k, hk, rfl, hB, hown⟩ := hrel
    have hz := hB.size
    by_cases hlt : k < l.length
    · have hlt' : (k : Int) < (l.length : Int) := by omega
      obtain ⟨gl, capl, hgl, _, _, hcl, _⟩ := row_open (row_low hrow) (by omega)
      simp only [Value.slice.injEq, true_and] at hgl
      obtain ⟨rfl, rfl⟩ := hgl
      obtain ⟨y, hy⟩ : ∃ y, l[k]? = some y := ⟨_, List.getElem?_eq_getElem hlt⟩
      have hgll : gl < w1.heap.size := World.block_lt_of_cell? w1 _ (hcl k hlt)
      have hc : wr.cell? ⟨gl, k, none⟩ = some (I64 y) := by rw [hB.cell (p := ⟨gl, k, none⟩) hgll, hcl k hlt, hy]; rfl
      have hC := h.kept (Chg.of_below (fun _ => False) (hB1.trans (hB.mono hB1.size))) (fun _ _ hf => hf)
      have HS : Hid ((l.take (k + 1)).filter (fun x => (childF ws ps vs x).isSome) = (l.take k).filter (fun x => (childF ws ps vs x).isSome) ++ (if (childF ws ps vs y).isSome = true then [y] else [])) := by
        show _ = _
        rw [List.take_add_one, hy]
        by_cases e : (childF ws ps vs y).isSome = true
        · simp [List.filter_append, e]
        · simp [List.filter_append, e]
      clear hcl hy
      obtain ⟨z, hzz⟩ : ∃ z, (l.take k).filter (fun x => (childF ws ps vs x).isSome) = z := ⟨_, rfl⟩
      have hnk : z.length ≤ k := by
        rw [← hzz]; exact Nat.le_trans (List.length_filter_le _ _) (by simp; omega)
      rw [hzz] at hown
      have HZ : Hid ((l.take k).filter (fun x => (childF ws ps vs x).isSome) = z) := hzz
      clear hzz
      go_wp2_with fail
      refine (linkedChild_at b S m ws ps vs _ _ _ y wr hC hT hW hl hO).mono ?_
      rintro e w3 ⟨rfl, hB3⟩
      have hown3 := row_below hown hB3 (Nat.le_refl _)
      have hB4 : Below w1.heap.size w1 w3 := hB.trans (hB3.mono hz)
      have hz4 := hB4.size
      cases hch : (childF ws ps vs y).isSome
      · have HS' : Hid ((l.take (k + 1)).filter (fun x => (childF ws ps vs x).isSome) = z) := by show _ = _; rw [HS.out, hch, HZ.out]; simp
        clear HS hch
        go_wp2
        go_roundw
        case rel => exact ⟨k + 1, by omega, by go_num, hB4, by rw [HS'.out]; exact hown3⟩
        case measure => simp [intOf]; omega
      · have HS' : Hid ((l.take (k + 1)).filter (fun x => (childF ws ps vs x).isSome) = z ++ [y]) := by show _ = _; rw [HS.out, hch, HZ.out]; simp
        clear HS hch
        have h63 : Hid (z.length + 1 ≤ maxLen) := by show _ ≤ _; unfold maxLen; omega
        go_wp2_with (at_builtin; refine wpList_append_own _ (by rfl) _ _ _ (by rfl) w1.heap.size 3 i0 (I64 0) 1 8 Tryz.underlying22 hi hz0 hz1 hz2 rfl (by omega) _ z.length (z.map I64) (by rfl) (hown3.alloc _) ⟨w3.heap.size, 0, none⟩ 1 1 [I64 y] (by rfl) (by rfl) (cell_one_new _ _ _) (by simp [Value.oneCell']) h63.out (by omega) (by simp; omega) ?_; intro v1 w2 hown1 hgrow1 hnil1)
        go_roundw
        case rel => exact ⟨k + 1, by omega, by go_num, (hB4.alloc hz4 _).grown hgrow1 (by simp; omega) (fun j e => (hown3.lt j e).1), by rw [HS'.out, List.map_append, List.length_append]; exact hown1⟩
        case measure => simp [intOf]; omega
    · have hk' : k = l.length := by omega
      subst hk'
      rw [List.take_length] at hown
      go_wp2
      go_ret
      unfold finalL
      rw [HLL.out]
      exact ⟨⟨_, rfl, row_lower hown hB1.size⟩, hB1.trans (hB.mono hB1.size)⟩

set_option maxHeartbeats 1000000 in
theorem final_at (b : Nat) (S : Nat → Prop) (ws ps : List Int) (vs : List Vt) (wv pv vv : Value) (w : World) (h : CourtAt w b S 0 ws ps vs wv pv vv) (hT : Tree ps) (hW : OkWs ws) (hl : vs.length ≤ 300) (hO : OkV ws.length ps vs) :
    Calls Tryz.prog 22 #[.pointer (some ⟨b, 0, none⟩)] w fun e w' => (∃ v, e = .returned v ∧ w'.ownsRow w.heap.size 3 1 v (finalL ws ps vs).length ((finalL ws ps vs).map I64)) ∧ CourtAt w' b S 0 ws ps vs wv pv vv ∧ Chg S w w' := by
  obtain ⟨gw, capw, rfl, _, _, _, _⟩ := row_open h.wrow hW.pos
  obtain ⟨h1, c1⟩ := h.setM 1
  have hd : decide (0 < ws.length) = true := by simpa using hW.pos
  go_enter_defers Tryz.func22, Tryz.ntmps22
  go_wp2_with fail
  refine (lock_at b 0 _ h.c0 (h.fz 0)).mono ?_
  rintro e w1 ⟨rfl, hw1⟩
  rw [← hw1] at h1 c1
  clear hw1
  go_wp2_with fail
  refine (made_at b 0 _ _ _ _ h1.c2).mono ?_
  rintro e w2 ⟨rfl, rfl⟩
  rw [hd]
  go_wp2_with fail
  refine (finalBlocks_at b S 1 ws ps vs _ pv vv _ h1 hT hW hl hO).mono ?_
  rintro e w4 ⟨⟨v, rfl, hrow⟩, hB5⟩
  have h4 := h1.kept (Chg.of_below (fun _ => False) hB5) (fun _ _ hf => hf)
  go_wp2_with fail
  refine leaves_cons (f := 33) (args := #[.pointer (some ⟨b, 0, none⟩)]) (by simp) (by simp [go_sem]) ?_
  refine (unlock_at b 0 .returning _ h4.c0 (h4.fz 0)).mono ?_
  rintro e u' w'' ⟨rfl, rfl, rfl⟩
  obtain ⟨h5, c5⟩ := h4.setM 0
  exact ⟨_, results_tmp rfl _ _ _, ⟨_, rfl, row_lower (row_set hrow b 0 _ (h1.lt b h1.inb)) c1.size⟩, h5, (c1.trans (Chg.of_below S hB5)).trans c5⟩
end Go.Proofs.YtgebcnnenhgkcaaGreat
/- Plain mathematics of proofs: the fewest links by which a block is just, and which links are a right proof. Nothing of the program is named here. -/
namespace Go.Proofs.YtgebcnnenhgkcaaGreat

/-! The way up that takes the links by which a block is just -/
def wStep (lk : Int → Int → Bool) (D : Int → Int) (q : Int × List (Int × Int)) (s : Int) : Int × List (Int × Int) :=
  if (decide (D s = D q.1 - 1) && lk s q.1) = true then (s, q.2 ++ [(s, q.1)]) else q
def walkS (lk : Int → Int → Bool) (D : Int → Int) (b : Int) (l : List Int) : Int × List (Int × Int) := l.foldl (wStep lk D) (b, [])
theorem walkS_snoc (lk : Int → Int → Bool) (D : Int → Int) (b : Int) (l : List Int) (s : Int) : walkS lk D b (l ++ [s]) = wStep lk D (walkS lk D b l) s := by
  unfold walkS; rw [List.foldl_append]; rfl

/-- A way from a block up to the root, the block's link first. -/
def IsWay (lk : Int → Int → Bool) (ps : List Int) : List (Int × Int) → Int → Prop
  | [], b => b = 0
  | (s, t) :: r, b => t = b ∧ 0 < b ∧ b.toNat < ps.length ∧ s ∈ up ps b ∧ lk s b = true ∧ IsWay lk ps r s
/-- A way from one block to another, the first link first. -/
def IsRun (lk : Int → Int → Bool) (ps : List Int) : Int → List (Int × Int) → Int → Prop
  | a, [], b => a = b
  | a, (s, t) :: r, b => s = a ∧ 0 < t ∧ t.toNat < ps.length ∧ s ∈ up ps t ∧ lk s t = true ∧ IsRun lk ps t r b

theorem IsRun.snoc {lk : Int → Int → Bool} {ps : List Int} : ∀ {l : List (Int × Int)} {a b c : Int}, IsRun lk ps a l b → 0 < c → c.toNat < ps.length → b ∈ up ps c → lk b c = true → IsRun lk ps a (l ++ [(b, c)]) c := by
  intro l
  induction l with
  | nil => intro a b c h h1 h2 h3 h4; cases h; exact ⟨rfl, h1, h2, h3, h4, rfl⟩
  | cons x r ih =>
    obtain ⟨s, t⟩ := x
    rintro a b c ⟨h0, h1, h2, h3, h4, h5⟩ k1 k2 k3 k4
    exact ⟨h0, h1, h2, h3, h4, ih h5 k1 k2 k3 k4⟩
theorem IsWay.run {lk : Int → Int → Bool} {ps : List Int} : ∀ {l : List (Int × Int)} {b : Int}, IsWay lk ps l b → IsRun lk ps 0 l.reverse b := by
  intro l
  induction l with
  | nil => intro b h; exact h.symm
  | cons x r ih =>
    obtain ⟨s, t⟩ := x
    rintro b ⟨rfl, h1, h2, h3, h4, h5⟩
    rw [List.reverse_cons]
    exact (ih h5).snoc h1 h2 h3 h4

theorem up_split {ps : List Int} (hT : Tree ps) : ∀ (n : Nat) (b : Int), 0 ≤ b → b.toNat < ps.length → b.toNat ≤ n → ∀ (l1 : List Int) (s : Int) (l2 : List Int), up ps b = l1 ++ s :: l2 → l2 = up ps s := by
  intro n
  induction n with
  | zero =>
    intro b h0 hl hn l1 s l2 h
    have : b = 0 := by omega
    subst this; simp [up_zero] at h
  | succ n ih =>
    intro b h0 hl hn l1 s l2 h
    by_cases hb : b = 0
    · subst hb; simp [up_zero] at h
    · have hp := hT.2.2.2 b.toNat (by omega) hl
      rw [up_step hT (by omega) hl] at h
      cases l1 with
      | nil =>
        simp only [List.nil_append, List.cons.injEq] at h
        rw [← h.2, h.1]
      | cons y r =>
        simp only [List.cons_append, List.cons.injEq] at h
        exact ih _ hp.1 (by omega) (by omega) r s l2 h.2

theorem first_split {f : Int → Bool} : ∀ {l : List Int}, (∃ s ∈ l, f s = true) → ∃ l1 s l2, l = l1 ++ s :: l2 ∧ f s = true ∧ ∀ x ∈ l1, f x = false := by
  intro l
  induction l with
  | nil => rintro ⟨s, hs, _⟩; cases hs
  | cons x r ih =>
    intro h
    cases hx : f x with
    | true => exact ⟨[], x, r, rfl, hx, fun y hy => by cases hy⟩
    | false =>
      obtain ⟨s, hs, hf⟩ := h
      rcases List.mem_cons.1 hs with rfl | hs
      · rw [hx] at hf; cases hf
      · obtain ⟨l1, s', l2, h1, h2, h3⟩ := ih ⟨s, hs, hf⟩
        exact ⟨x :: l1, s', l2, by rw [h1]; rfl, h2, fun y hy => (List.mem_cons.1 hy).elim (fun e => e ▸ hx) (h3 y)⟩

theorem foldl_same {lk : Int → Int → Bool} {D : Int → Int} {q : Int × List (Int × Int)} : ∀ {l : List Int}, (∀ x ∈ l, (decide (D x = D q.1 - 1) && lk x q.1) = false) → l.foldl (wStep lk D) q = q := by
  intro l
  induction l with
  | nil => intro _; rfl
  | cons x r ih =>
    intro h
    rw [List.foldl_cons]
    have : wStep lk D q x = q := by unfold wStep; rw [if_neg (by rw [h x (List.mem_cons_self ..)]; simp)]
    rw [this]
    exact ih (fun y hy => h y (List.mem_cons_of_mem _ hy))

theorem walk_is {lk : Int → Int → Bool} {ps : List Int} {D : Int → Int} (hT : Tree ps) (hD : IsSteps lk ps D) : ∀ (n : Nat) (b : Int), 0 ≤ b → b.toNat < ps.length → b.toNat ≤ n → D b < 40 → ∀ acc, ∃ l, (up ps b).foldl (wStep lk D) (b, acc) = (0, acc ++ l) ∧ IsWay lk ps l b ∧ (l.length : Int) = D b := by
  intro n
  induction n with
  | zero =>
    intro b h0 hl hn hd acc
    have : b = 0 := by omega
    subst this
    exact ⟨[], by simp [up_zero], rfl, by rw [hD.root]; rfl⟩
  | succ n ih =>
    intro b h0 hl hn hd acc
    by_cases hb : b = 0
    · subst hb
      exact ⟨[], by simp [up_zero], rfl, by rw [hD.root]; rfl⟩
    · obtain ⟨s, hs, hk, he⟩ := hD.by' b (by omega) hl hd
      obtain ⟨l1, s0, l2, h1, h2, h3⟩ := first_split (f := fun x => decide (D x = D b - 1) && lk x b) ⟨s, hs, by simp [hk]; omega⟩
      have h4 := up_split hT b.toNat b h0 hl (Nat.le_refl _) l1 s0 l2 h1
      have hm : s0 ∈ up ps b := by rw [h1]; simp
      have hlt := mem_up_lt hT h0 hl hm
      have h2' : D s0 = D b - 1 ∧ lk s0 b = true := by simpa using h2
      obtain ⟨l, e1, e2, e3⟩ := ih s0 hlt.1 (by omega) (by omega) (by omega) (acc ++ [(s0, b)])
      refine ⟨(s0, b) :: l, ?_, ⟨rfl, by omega, hl, hm, h2'.2, e2⟩, ?_⟩
      · rw [h1, List.foldl_append, foldl_same (q := (b, acc)) h3, List.foldl_cons]
        have : wStep lk D (b, acc) s0 = (s0, acc ++ [(s0, b)]) := by unfold wStep; rw [if_pos h2]
        rw [this, h4, e1]
        simp
      · rw [List.length_cons]; omega

/-- The walk over all those ahead. -/
theorem walkS_is {lk : Int → Int → Bool} {ps : List Int} {D : Int → Int} (hT : Tree ps) (hD : IsSteps lk ps D) {b : Int} (h0 : 0 ≤ b) (hl : b.toNat < ps.length) (hd : D b < 40) : IsRun lk ps 0 (walkS lk D b (up ps b)).2.reverse b ∧ ((walkS lk D b (up ps b)).2.length : Int) = D b := by
  obtain ⟨l, h1, h2, h3⟩ := walk_is hT hD b.toNat b h0 hl (Nat.le_refl _) hd []
  unfold walkS
  rw [h1]
  exact ⟨by simpa using h2.run, by simpa using h3⟩

/-! Right proofs -/
/-- A link, and by whom. -/
structure Lk where
  s : Int
  t : Int
  vs : List Int

/-- Are voters there, and do they rise from a least one on? -/
def riseB (n : Nat) : Int → List Int → Bool
  | _, [] => true
  | m, v :: r => (decide (m ≤ v) && decide (v < n)) && riseB n (v + 1) r
def enB (ws l : List Int) : Bool := decide (2 * sumI ws ≤ 3 * wSum ws l)
def inB (ps : List Int) (t : Int) : Bool := decide (0 ≤ t) && decide (t < ps.length)
/-- One link of a proof, from where the one ahead has come. -/
def okL (ws ps : List Int) (a : Int) (l : Lk) : Bool := (l.s == a) && ((inB ps l.t && ahead ps l.s l.t) && (riseB ws.length 0 l.vs && enB ws l.vs))
def chainB (ws ps : List Int) : Int → List Lk → Bool
  | _, [] => true
  | a, l :: r => okL ws ps a l && chainB ws ps l.t r
def endL : Int → List Lk → Int
  | a, [] => a
  | _, l :: r => endL l.t r
def lastS (L : List Lk) : Int := (L[L.length - 1]?.map (fun l => l.s)).getD 0
def rightB (ws ps : List Int) (L : List Lk) : Bool := (decide (1 ≤ L.length) && decide (L.length ≤ 40)) && (chainB ws ps 0 L && (ps[(endL 0 L).toNat]?.getD 0 == lastS L))

theorem chainB_append {ws ps : List Int} : ∀ {L : List Lk} {M : List Lk} {a : Int}, chainB ws ps a (L ++ M) = (chainB ws ps a L && chainB ws ps (endL a L) M) := by
  intro L
  induction L with
  | nil => intro M a; simp [chainB, endL]
  | cons l r ih => intro M a; simp only [List.cons_append, chainB, endL, ih, Bool.and_assoc]
theorem endL_append {L M : List Lk} {a : Int} : endL a (L ++ M) = endL (endL a L) M := by
  induction L generalizing a with
  | nil => rfl
  | cons l r ih => simp only [List.cons_append, endL]; exact ih
theorem endL_last : ∀ {L : List Lk} {a : Int} {l : Lk}, L[L.length - 1]? = some l → endL a L = l.t := by
  intro L
  induction L with
  | nil => intro a l h; simp at h
  | cons x r ih =>
    intro a l h
    simp only [endL]
    cases r with
    | nil => simp at h; subst h; rfl
    | cons y q =>
      refine ih ?_
      simpa using h
theorem chainB_take {ws ps : List Int} {L : List Lk} {k : Nat} {l : Lk} {a : Int} (h : L[k]? = some l) : chainB ws ps a (L.take (k + 1)) = (chainB ws ps a (L.take k) && okL ws ps (endL a (L.take k)) l) := by
  rw [List.take_add_one, h]
  simp only [Option.toList_some]
  rw [chainB_append]
  simp [chainB]
theorem endL_take {L : List Lk} {k : Nat} {l : Lk} {a : Int} (h : L[k]? = some l) : endL a (L.take (k + 1)) = l.t := by
  rw [List.take_add_one, h]
  simp only [Option.toList_some]
  rw [endL_append]; rfl
theorem chainB_prefix {ws ps : List Int} {L : List Lk} {k : Nat} {a : Int} (h : chainB ws ps a (L.take k) = false) : chainB ws ps a L = false := by
  rw [← List.take_append_drop k L, chainB_append, h, Bool.false_and]

theorem riseB_iff {n : Nat} : ∀ {L : List Int} {m : Int}, riseB n m L = true ↔ (∀ v ∈ L, m ≤ v ∧ v < n) ∧ L.Pairwise (fun a b => a < b) := by
  intro L
  induction L with
  | nil => intro m; simp [riseB]
  | cons x r ih =>
    intro m
    simp only [riseB, Bool.and_eq_true, decide_eq_true_eq, ih, List.pairwise_cons, List.mem_cons]
    constructor
    · rintro ⟨⟨h1, h2⟩, h3, h4⟩
      exact ⟨fun v hv => hv.elim (fun e => e ▸ ⟨h1, h2⟩) (fun h => ⟨by have := (h3 v h).1; omega, (h3 v h).2⟩), fun b hb => by have := (h3 b hb).1; omega, h4⟩
    · rintro ⟨h1, h2, h3⟩
      exact ⟨h1 x (.inl rfl), fun v hv => ⟨by have := h2 v hv; omega, (h1 v (.inr hv)).2⟩, h3⟩
end Go.Proofs.YtgebcnnenhgkcaaGreat
