/- The document's own Court: linked, Far. -/
import Derived.Test.YtgebcnnenhgkcaaGreatRefE
import Derived.Test.YtgebcnnenhgkcaaGreatJustA
namespace Go.Proofs.YtgebcnnenhgkcaaGreat
open Go.RowKit

theorem refLinked_at (b : Nat) (S : Nat → Prop) (ws ps : List Int) (vs : List Vt) (wv pv vv : Value) (s t : Int) (w : World) (h : RefAt w b S ws ps vs wv pv vv) (hW : OkWs ws) (hl : vs.length ≤ 300) (hO : OkV ws.length ps vs) :
    Calls Tryz.prog 108 #[.pointer (some ⟨b, 0, none⟩), .int .i64 s, .int .i64 t] w fun e w' => e = .returned (.bool (linkB ws vs s t)) ∧ Below w.heap.size w w' := by
  go_enter Tryz.func108, Tryz.ntmps108
  go_wp2_with fail
  refine (refVoters_at b S ws ps vs wv pv vv s t _ h hW hl hO).mono ?_
  rintro e w1 ⟨⟨v, rfl, hrow⟩, hB1⟩
  have h1 := h.kept (Chg.of_below (fun _ => False) hB1) (fun _ _ hf => hf)
  have hlen : (votersL ws.length vs s t).length ≤ 300 := by
    rw [(votersL_perm hO.v s t).length_eq]; have := onL_length hO s t; have := hW.le; omega
  have hE := refEnough_at b S ws ps vs wv pv vv v (votersL ws.length vs s t) w1 h1 hW (row_low hrow) (fun v hv => mem_votersL hv) hlen
  rw [wSum_perm ws (votersL_perm hO.v s t)] at hE
  clear hrow
  go_wp2_with fail
  refine hE.mono ?_
  rintro e w2 ⟨rfl, hB2⟩
  clear hE
  go_wp2
  go_ret
  exact ⟨rfl, hB1.trans (hB2.mono hB1.size)⟩

/-- In the midst of a round: what is told of a block is right; all of fewer links are told; what lies behind one of the blocks below a0 is told. -/
structure FarM (D : Int → Int) (lk : Int → Int → Bool) (n : Nat) (r : Int) (a0 : Nat) (A : Array Int) : Prop where
  size : A.size = n
  ok : ∀ b, b < n → A[b]! = -1 ∨ A[b]! = D b
  low : ∀ b, b < n → D b < r → A[b]! = D b
  le : ∀ b, b < n → A[b]! ≠ -1 → D b ≤ r
  by' : ∀ a b, a < a0 → b < n → D a = r - 1 → lk a b = true → A[b]! ≠ -1
/-- At the beginning of a round. -/
structure FarB (D : Int → Int) (n : Nat) (r : Int) (A : Array Int) : Prop where
  size : A.size = n
  ok : ∀ b, b < n → A[b]! = -1 ∨ A[b]! = D b
  low : ∀ b, b < n → D b < r → A[b]! = D b
  lt : ∀ b, b < n → A[b]! ≠ -1 → D b < r

section
variable {D : Int → Int} {lk : Int → Int → Bool} {ps : List Int} {r : Int} {a0 : Nat} {A : Array Int}
theorem FarB.begin (h : FarB D ps.length r A) : FarM D lk ps.length r 0 A := ⟨h.size, h.ok, h.low, fun b hb hn => by have := h.lt b hb hn; omega, fun a b ha => by omega⟩
theorem FarM.end' (hD : IsSteps lk ps D) (hT : Tree ps) (h : FarM D lk ps.length r ps.length A) (h1 : 1 ≤ r) (h40 : r < 40) : FarB D ps.length (r + 1) A := by
  refine ⟨h.size, h.ok, fun b hb hlt => ?_, fun b hb hn => by have := h.le b hb hn; omega⟩
  by_cases e : D b < r
  · exact h.low b hb e
  · have hbr : D b = r := by omega
    have hb0 : 0 < (b : Int) := by
      by_cases e0 : b = 0
      · subst e0; have := hD.root; simp at hbr; omega
      · omega
    obtain ⟨s, hs, hl, he⟩ := hD.by' b hb0 (by simpa using hb) (by omega)
    have hsl := mem_up_lt hT (Int.le_of_lt hb0) (by simpa using hb) hs
    have hsn : (s.toNat : Int) = s := Int.toNat_of_nonneg hsl.1
    have := h.by' s.toNat b (by omega) hb (by rw [hsn]; omega) (by rw [hsn]; exact hl)
    exact (h.ok b hb).resolve_left this
/-- What Far tells. -/
def farOf (d : Int) : Int := if d = 40 then -1 else d
theorem FarB.all (hD : IsSteps lk ps D) (hT : Tree ps) (h : FarB D ps.length ps.length A) (b : Nat) (hb : b < ps.length) : A[b]! = farOf (D b) := by
  have hle := hD.le b (by omega) (by simpa using hb)
  have h40 := hT.2.1
  unfold farOf
  split
  · rename_i e
    by_cases hn : A[b]! = -1
    · exact hn
    · have := h.lt b hb hn; omega
  · rename_i e
    have := hD.low b (by omega) (by simpa using hb) (by omega)
    exact h.low b hb (by omega)
/-- A block is told. -/
theorem FarM.put (hD : IsSteps lk ps D) (h : FarM D lk ps.length r a0 A) (a b : Nat) (hb : b < ps.length) (hb0 : 0 < b) (hup : (a : Int) ∈ up ps b) (hl : lk a b = true) (ha : D a = r - 1) (hn : A[b]! = -1) (hr : 1 ≤ r) : FarM D lk ps.length r a0 (A.set! b r) := by
  have hsz := h.size
  have hDb : D b = r := by
    have h1 := hD.min b (by omega) (by simpa using hb) a hup hl
    have h2 := hD.le b (by omega) (by simpa using hb)
    by_cases e : D b < r
    · have := h.low b hb e; omega
    · omega
  have hset : ∀ c, c < ps.length → (A.set! b r)[c]! = if c = b then r else A[c]! := fun c hc => by
    simp only [Array.set!_eq_setIfInBounds]
    by_cases e : c = b
    · subst e; simp [hsz, hc]
    · rw [if_neg e]
      simp [Array.getElem!_eq_getD, Array.getD_eq_getD_getElem?, Array.getElem?_setIfInBounds_ne (Ne.symm e)]
  refine ⟨by simpa using hsz, fun c hc => ?_, fun c hc hlt => ?_, fun c hc hne => ?_, fun a' c ha' hc hd hk => ?_⟩
  · rw [hset c hc]
    split
    · rename_i e; subst e; exact .inr hDb.symm
    · exact h.ok c hc
  · rw [hset c hc]
    split
    · rename_i e; subst e; exact hDb.symm
    · exact h.low c hc hlt
  · rw [hset c hc] at hne
    by_cases e : c = b
    · subst e; omega
    · rw [if_neg e] at hne; exact h.le c hc hne
  · rw [hset c hc]
    split
    · omega
    · exact h.by' a' c ha' hc hd hk
theorem FarM.skip (h : FarM D lk ps.length r a0 A) (ha : a0 < ps.length) (hne : A[a0]! ≠ r - 1) : FarM D lk ps.length r (a0 + 1) A := by
  refine ⟨h.size, h.ok, h.low, h.le, fun a b ha' hb hd hk => ?_⟩
  by_cases e : a = a0
  · subst e
    have := h.low a ha (by omega)
    omega
  · exact h.by' a b (by omega) hb hd hk
theorem FarM.next {vs : List Vt} (h : FarM D lk ps.length r a0 A) (hv : ∀ b, lk a0 b = true → ∃ y ∈ vs, y.s = a0 ∧ y.t = b) (hd : ∀ y ∈ vs, y.s = a0 → lk a0 y.t = true → A[y.t.toNat]! ≠ -1) : FarM D lk ps.length r (a0 + 1) A := by
  refine ⟨h.size, h.ok, h.low, h.le, fun a b ha' hb hda hk => ?_⟩
  by_cases e : a = a0
  · subst e
    obtain ⟨y, hy, h1, h2⟩ := hv b hk
    have := hd y hy h1 (by rw [h2]; exact hk)
    rw [h2] at this
    simpa using this
  · exact h.by' a b (by omega) hb hda hk
end

set_option maxRecDepth 100000 in
set_option maxHeartbeats 4000000 in
theorem refFar_at (b : Nat) (S : Nat → Prop) (ws ps : List Int) (vs : List Vt) (wv pv vv : Value) (w : World) (h : RefAt w b S ws ps vs wv pv vv) (hT : Tree ps) (hW : OkWs ws) (hl : vs.length ≤ 300) (hO : OkV ws.length ps vs) :
    Calls Tryz.prog 79 #[.pointer (some ⟨b, 0, none⟩)] w fun e w' => (∃ g A, e = .returned (.slice (some ⟨g, 0, none⟩) ps.length ps.length) ∧ w.heap.size ≤ g ∧ Nums w' g ps.length A ∧ A.size = ps.length ∧ ∀ j, j < ps.length → A[j]! = farOf (stAt (stepsC ws ps vs) j)) ∧ Below w.heap.size w w' := by
  have hD : IsSteps (linkB ws vs) ps (stAt (stepsC ws ps vs)) := stepsL_is (linkB ws vs) hT
  have h1 := h.c1
  have h2 := h.c2
  have hlen : ps.length ≤ 40 := hT.2.1
  obtain ⟨i0, hi, hz0, hz1, hz2⟩ := info_parts info_int
  obtain ⟨g0, cap0, rfl, _, _, _, _⟩ := row_open h.prow hT.1
  go_enter Tryz.func79, Tryz.ntmps79
  have h63 : Hid (ps.length ≤ maxLen) := by show _ ≤ _; unfold maxLen; omega
  have hby : Hid (i0.bytes * ps.length ≤ 281474976710656) := by show _ ≤ _; rw [hz2]; omega
  clear hz2
  go_wp2_with (at_make; refine wpList_make_full _ (by rfl) _ _ _ (by rfl) 0 3 i0 (I64 0) 1 Tryz.underlying22 hi hz0 hz1 .i64 .i64 _ _ ps.length (by rfl) (by rfl) rfl rfl hby.out h63.out (Nat.zero_le _) ?_; intro w2 hown2 hgrow2)
  have hB2 : Below w.heap.size w w2 := (Below.refl _ w).grown hgrow2 (Nat.le_refl _) (fun k e => by cases e)
  have hstart : Hid (∃ A, Nums w2 w.heap.size ps.length A ∧ A.size = ps.length ∧ ∀ j, j < ps.length → A[j]! = if 0 < j ∧ j < 1 then -1 else 0) := by
    have e2 : (madeCells (I64 0).cells (ps.length * 1)).toList = (List.replicate ps.length (0 : Int)).map I64 := by
      rw [List.map_replicate]
      simpa [Value.cells] using toList_madeCells_one (I64 0) (ps.length * 1)
    rw [e2] at hown2
    refine ⟨_, (row_nums hown2).2.1, by simp, fun j hj => ?_⟩
    rw [if_neg (by omega), getElem!_pos _ _ (by simpa using hj)]
    simp
  clear hown2 hgrow2
  obtain ⟨vp, vc, hvv⟩ : ∃ vp vc, vv = .slice vp vs.length vc := by
    rcases h.vrow.2 with ⟨h', h''⟩ | ⟨g, cap, cur, h', _⟩
    · exact ⟨none, 0, by rw [h', h'']⟩
    · exact ⟨_, _, h'⟩
  subst hvv
  have hbl := h.lt b h.inb
  have hpos := hT.1
  go_loopw [4] (fun i wr => ∃ k : Nat, 1 ≤ k ∧ k ≤ ps.length ∧ i = .int .i64 k ∧ Below w.heap.size w wr ∧ Hid (∃ A, Nums wr w.heap.size ps.length A ∧ A.size = ps.length ∧ ∀ j, j < ps.length → A[j]! = if 0 < j ∧ j < k then -1 else 0)) (fun i _ => ps.length - (intOf i).toNat)
  case atStart => exact ⟨1, by omega, by omega, rfl, hB2, hstart⟩
  case round =>
    obtain ⟨k, hk1, hk, rfl, hB, hcur⟩ := hrel
    clear hstart hB2
    by_cases hlt : k < ps.length
    · have hlt' : (k : Int) < (ps.length : Int) := by omega
      obtain ⟨A, hA1, hA2, hA3⟩ := hcur.out
      obtain ⟨hv, hf⟩ := hA1.cell (j := k) (by omega)
      have hset := hA1.set (j := k) (by omega) (-1)
      have HN : Hid (∃ A, Nums (wr.setCell ⟨w.heap.size, k, none⟩ (I64 (-1))) w.heap.size ps.length A ∧ A.size = ps.length ∧ ∀ j, j < ps.length → A[j]! = if 0 < j ∧ j < k + 1 then -1 else 0) := by
        refine ⟨_, hset, by simpa using hA2, fun j hj => ?_⟩
        simp only [Array.set!_eq_setIfInBounds]
        by_cases e : j = k
        · subst e
          rw [if_pos (by omega)]
          simp [hA2, hj]
        · have e1 : (A.setIfInBounds k (-1))[j]! = A[j]! := by simp [Array.getElem!_eq_getD, Array.getD_eq_getD_getElem?, Array.getElem?_setIfInBounds_ne (Ne.symm e)]
          rw [e1, hA3 j hj]
          by_cases e2 : 0 < j ∧ j < k
          · rw [if_pos e2, if_pos (by omega)]
          · rw [if_neg e2, if_neg (by omega)]
      generalize A[k]! = z2 at hv
      clear hset hA1 hA2 hA3 hcur
      have hBn : Below w.heap.size w (wr.setCell ⟨w.heap.size, k, none⟩ (I64 (-1))) := hB.setCell (p := ⟨w.heap.size, k, none⟩) (Nat.le_refl _) _
      go_wp2
      go_roundw
      case rel => exact ⟨k + 1, by omega, by omega, by go_num, hBn, HN⟩
      case measure => simp [intOf]; omega
    · have hB1 : Hid (∃ A, Nums wr w.heap.size ps.length A ∧ FarB (stAt (stepsC ws ps vs)) ps.length 1 A) := by
        obtain ⟨A, hA1, hA2, hA3⟩ := hcur.out
        have hk' : k = ps.length := by omega
        subst hk'
        have h00 : A[0]! = 0 := by rw [hA3 0 hT.1, if_neg (by omega)]
        have hbb : ∀ j, 0 < j → j < ps.length → A[j]! = -1 := fun j h0 hj => by rw [hA3 j hj, if_pos ⟨h0, hj⟩]
        refine ⟨A, hA1, hA2, fun j hj => ?_, fun j hj hd => ?_, fun j hj hn => ?_⟩
        · by_cases e : j = 0
          · subst e; right; rw [h00]; exact hD.root.symm
          · exact .inl (hbb j (by omega) hj)
        · by_cases e : j = 0
          · subst e; rw [h00]; exact hD.root.symm
          · exfalso
            obtain ⟨s, hs, _, he⟩ := hD.by' j (by omega) (by simpa using hj) (by omega)
            have h3 := mem_up_lt hT (by omega) (by simpa using hj) hs
            have h4 := (hD.le s h3.1 (by omega)).1
            omega
        · by_cases e : j = 0
          · subst e; have := hD.root; simp at this ⊢; omega
          · exact absurd (hbb j (by omega) hj) hn
      have hBw := hB
      clear hcur
      go_wp2
      go_loopw [5] (fun i wr => ∃ r : Nat, 1 ≤ r ∧ r ≤ ps.length ∧ i = .int .i64 r ∧ Below w.heap.size w wr ∧ Hid (∃ A, Nums wr w.heap.size ps.length A ∧ FarB (stAt (stepsC ws ps vs)) ps.length r A)) (fun i _ => ps.length - (intOf i).toNat)
      case atStart => exact ⟨1, by omega, by omega, rfl, hBw, hB1⟩
      case round =>
        clear hB1 hB hBw
        obtain ⟨r, hr1, hr, rfl, hB, hcur⟩ := hrel
        by_cases hrl : r < ps.length
        · have hrl' : (r : Int) < (ps.length : Int) := by omega
          have hM0 : Hid (∃ A, Nums wr w.heap.size ps.length A ∧ FarM (stAt (stepsC ws ps vs)) (linkB ws vs) ps.length r 0 A) := by
            obtain ⟨A, hA1, hA2⟩ := hcur.out
            exact ⟨A, hA1, hA2.begin⟩
          clear hcur
          go_wp2
          go_loopw [6] (fun i wr => ∃ a : Nat, a ≤ ps.length ∧ i = .int .i64 a ∧ Below w.heap.size w wr ∧ Hid (∃ A, Nums wr w.heap.size ps.length A ∧ FarM (stAt (stepsC ws ps vs)) (linkB ws vs) ps.length r a A)) (fun i _ => ps.length - (intOf i).toNat)
          case atStart => exact ⟨0, by omega, rfl, hB, hM0⟩
          case round =>
            clear hM0 hB
            obtain ⟨a, ha, rfl, hB, hcur⟩ := hrel
            by_cases hal : a < ps.length
            · have hal' : (a : Int) < (ps.length : Int) := by omega
              obtain ⟨A, hA1, hA2⟩ := hcur.out
              have hsz := hA2.size
              obtain ⟨hv, _⟩ := hA1.cell (j := a) (by omega)
              obtain ⟨z, hz⟩ : ∃ z, A[a]! = z := ⟨_, rfl⟩
              rw [hz] at hv
              have hwr1 : IntKind.i64.wrap ((r : Int) - 1) = (r : Int) - 1 := Go.IntWalk.i64_in _ (by omega)
              by_cases hzr : z = (r : Int) - 1
              · have q : (z != (r : Int) - 1) = false := by simpa using hzr
                have HD : Hid (stAt (stepsC ws ps vs) a = (r : Int) - 1) := by
                  show _ = _
                  rcases hA2.ok a hal with e | e <;> omega
                have hI0 : Hid (∃ A, Nums wr w.heap.size ps.length A ∧ FarM (stAt (stepsC ws ps vs)) (linkB ws vs) ps.length r a A ∧ ∀ (i' : Nat) (y : Vt), i' < 0 → vs[i']? = some y → y.s = a → linkB ws vs a y.t = true → A[y.t.toNat]! ≠ -1) := ⟨A, hA1, hA2, fun i' y h => by omega⟩
                clear hzr hz hA1 hA2 hsz hcur
                have r2 : wr.cell? ⟨b, 2, none⟩ = some (.slice vp vs.length vc) := (hB.cell (p := ⟨b, 2, none⟩) hbl).trans h2
                go_wp2
                go_loopw [7] (fun i wr => ∃ k : Nat, k ≤ vs.length ∧ i = .int .i64 k ∧ Below w.heap.size w wr ∧ Hid (∃ A, Nums wr w.heap.size ps.length A ∧ FarM (stAt (stepsC ws ps vs)) (linkB ws vs) ps.length r a A ∧ ∀ (i' : Nat) (y : Vt), i' < k → vs[i']? = some y → y.s = a → linkB ws vs a y.t = true → A[y.t.toNat]! ≠ -1)) (fun i _ => vs.length - (intOf i).toNat)
                case atStart => exact ⟨0, by omega, rfl, hB, hI0⟩
                case round =>
                  clear hI0 hB r2 hv
                  obtain ⟨k, hk, rfl, hB, hcur⟩ := hrel
                  have r2 : wr.cell? ⟨b, 2, none⟩ = some (.slice vp vs.length vc) := (hB.cell (p := ⟨b, 2, none⟩) hbl).trans h2
                  by_cases hkl : k < vs.length
                  · have hkl' : (k : Int) < (vs.length : Int) := by omega
                    obtain ⟨gv, cap, hgv, _, _, hc, _⟩ := vrow_open h.vrow (by omega)
                    simp only [Value.slice.injEq, true_and] at hgv
                    obtain ⟨rfl, rfl⟩ := hgv
                    have hgl : gv < w.heap.size := VCells.lt hc (by omega)
                    obtain ⟨y, hy⟩ : ∃ y, vs[k]? = some y := ⟨_, List.getElem?_eq_getElem hkl⟩
                    obtain ⟨hc0, hc1, hc2⟩ := VCells.below hc hB hgl k y hy
                    have hym := List.mem_of_getElem? hy
                    obtain ⟨yt0, yt1⟩ := hO.t y hym
                    obtain ⟨A, hA1, hA2, hA3⟩ := hcur.out
                    have hsz := hA2.size
                    obtain ⟨hv, hf⟩ := hA1.cell (j := y.t.toNat) (by omega)
                    obtain ⟨z, hz⟩ : ∃ z, A[y.t.toNat]! = z := ⟨_, rfl⟩
                    rw [hz] at hv
                    have hyl : y.t < (ps.length : Int) := by omega
                    have hgo : (y.s = a → linkB ws vs a y.t = true → A[y.t.toNat]! ≠ -1) → Hid (∃ A, Nums wr w.heap.size ps.length A ∧ FarM (stAt (stepsC ws ps vs)) (linkB ws vs) ps.length r a A ∧ ∀ (i' : Nat) (y : Vt), i' < k + 1 → vs[i']? = some y → y.s = a → linkB ws vs a y.t = true → A[y.t.toNat]! ≠ -1) := fun hh => by
                      refine ⟨A, hA1, hA2, fun i' y' hi' hy' => ?_⟩
                      by_cases e : i' = k
                      · subst e
                        rw [hy] at hy'
                        simp only [Option.some.injEq] at hy'
                        subst hy'
                        exact hh
                      · exact hA3 i' y' (by omega) hy'
                    by_cases e1 : y.s = (a : Int)
                    · have q1 : (y.s != (a : Int)) = false := by simpa using e1
                      by_cases e2 : 0 ≤ z
                      · have HN := hgo (fun _ _ => by omega)
                        clear hgo hA1 hA2 hA3 hcur hc hy
                        clear e1
                        go_wp2
                        go_roundw
                        case rel => exact ⟨k + 1, by omega, by go_num, hB, HN⟩
                        case measure => simp [intOf]; omega
                      · have hz1 : z = -1 := by
                          rcases hA2.ok y.t.toNat yt1 with e | e
                          · omega
                          · have := (hD.le (y.t.toNat : Int) (by omega) (by rw [Int.toNat_natCast]; exact yt1)).1; omega
                        have e2' : ¬ (0 : Int) ≤ z := e2
                        have hz2 : z < 0 := by omega
                        have HE1 : Hid (y.s = (a : Int)) := e1
                        have HZ1 : Hid (z = -1) := hz1
                        have HZ : Hid (A[y.t.toNat]! = z) := hz
                        have hC := h.kept (Chg.of_below (fun _ => False) hB) (fun _ _ hf => hf)
                        have HA : Hid (Nums wr w.heap.size ps.length A ∧ FarM (stAt (stepsC ws ps vs)) (linkB ws vs) ps.length r a A) := ⟨hA1, hA2⟩
                        have HGO : Hid _ := hgo
                        have HA3 : Hid _ := hA3
                        have HY : Hid (vs[k]? = some y) := hy
                        have hglw := hA1.lt
                        clear hgo hA1 hA2 hA3 hcur hc hy e1 hz1 hz e2
                        go_wp2_with fail
                        refine (refLinked_at b S ws ps vs _ _ _ a y.t _ hC hW hl hO).mono ?_
                        rintro e w3 ⟨rfl, hB3⟩
                        have hB4 : Below w.heap.size w w3 := hB.trans (hB3.mono hB.size)
                        obtain ⟨hv3, hf3⟩ : w3.cell? ⟨w.heap.size, y.t.toNat, none⟩ = some (I64 z) ∧ w3.frozen? ⟨w.heap.size, y.t.toNat, none⟩ = false :=
                          ⟨(hB3.cell (p := ⟨w.heap.size, y.t.toNat, none⟩) hglw).trans hv, (hB3.frozen (p := ⟨w.heap.size, y.t.toNat, none⟩) hglw).trans hf⟩
                        cases hlk : linkB ws vs a y.t
                        · have HN : Hid (∃ A, Nums w3 w.heap.size ps.length A ∧ FarM (stAt (stepsC ws ps vs)) (linkB ws vs) ps.length r a A ∧ ∀ (i' : Nat) (y : Vt), i' < k + 1 → vs[i']? = some y → y.s = a → linkB ws vs a y.t = true → A[y.t.toNat]! ≠ -1) := by
                            obtain ⟨A', a1, a2, a3⟩ := (HGO.out (fun _ h => by rw [hlk] at h; cases h)).out
                            exact ⟨A', a1.below hB3 hglw, a2, a3⟩
                          clear hlk HGO HA HA3
                          go_wp2
                          go_roundw
                          case rel => exact ⟨k + 1, by omega, by go_num, hB4, HN⟩
                          case measure => simp [intOf]; omega
                        · have HN : Hid (∃ A, Nums (w3.setCell ⟨w.heap.size, y.t.toNat, none⟩ (I64 r)) w.heap.size ps.length A ∧ FarM (stAt (stepsC ws ps vs)) (linkB ws vs) ps.length r a A ∧ ∀ (i' : Nat) (y : Vt), i' < k + 1 → vs[i']? = some y → y.s = a → linkB ws vs a y.t = true → A[y.t.toNat]! ≠ -1) := by
                            obtain ⟨a1, a2⟩ := HA.out
                            have hsz := a2.size
                            have hup : (a : Int) ∈ up ps (y.t.toNat : Int) := by
                              rw [Int.toNat_of_nonneg yt0, ← HE1.out]; exact ahead_mem.1 (hO.a y hym)
                            have hpos' : 0 < y.t.toNat := by
                              have := mem_up_lt hT (by omega) (by rw [Int.toNat_natCast]; exact yt1) hup; omega
                            have hnew : ∀ c : Nat, c < ps.length → (A.set! y.t.toNat (r : Int))[c]! = if c = y.t.toNat then (r : Int) else A[c]! := fun c hc => by
                              simp only [Array.set!_eq_setIfInBounds]
                              by_cases e : c = y.t.toNat
                              · subst e; simp [hsz, hc]
                              · rw [if_neg e]
                                simp [Array.getElem!_eq_getD, Array.getD_eq_getD_getElem?, Array.getElem?_setIfInBounds_ne (Ne.symm e)]
                            refine ⟨_, (a1.below hB3 hglw).set (j := y.t.toNat) (by omega) (r : Int), a2.put hD a y.t.toNat yt1 hpos' hup (by rw [Int.toNat_of_nonneg yt0]; exact hlk) HD.out (by rw [HZ.out]; exact HZ1.out) (by omega), fun i' y' hi' hy' hs' hl' => ?_⟩
                            have hy't := hO.t y' (List.mem_of_getElem? hy')
                            rw [hnew _ hy't.2]
                            split
                            · omega
                            · rename_i hne
                              by_cases e : i' = k
                              · subst e
                                have e3 := HY.out.symm.trans hy'
                                simp only [Option.some.injEq] at e3
                                subst e3
                                exact absurd rfl hne
                              · exact HA3.out i' y' (by omega) hy' hs' hl'
                          clear hlk HGO HA HA3
                          have hBn : Below w.heap.size w (w3.setCell ⟨w.heap.size, y.t.toNat, none⟩ (I64 r)) := hB4.setCell (p := ⟨w.heap.size, y.t.toNat, none⟩) (Nat.le_refl _) _
                          go_wp2
                          go_roundw
                          case rel => exact ⟨k + 1, by omega, by go_num, hBn, HN⟩
                          case measure => simp [intOf]; omega
                    · have q1 : (y.s != (a : Int)) = true := by simpa using e1
                      have HN := hgo (fun e _ => absurd e e1)
                      clear hgo hA1 hA2 hA3 hcur hc hy e1
                      go_wp2
                      go_roundw
                      case rel => exact ⟨k + 1, by omega, by go_num, hB, HN⟩
                      case measure => simp [intOf]; omega
                  · have HN : Hid (∃ A, Nums wr w.heap.size ps.length A ∧ FarM (stAt (stepsC ws ps vs)) (linkB ws vs) ps.length r (a + 1) A) := by
                      obtain ⟨A, a1, a2, a3⟩ := hcur.out
                      refine ⟨A, a1, a2.next (vs := vs) (fun c hc => linkB_vote hW.sum.1 hc) (fun y hy hs' hl' => ?_)⟩
                      obtain ⟨i', hi'⟩ := List.getElem?_of_mem hy
                      exact a3 i' y (by have := (List.getElem?_eq_some_iff.1 hi').1; omega) hi' hs' hl'
                    clear hcur
                    go_wp2
                    go_roundw
                    case rel => exact ⟨a + 1, by omega, by go_num, hB, HN⟩
                    case measure => simp [intOf]; omega
              · have q : (z != (r : Int) - 1) = true := by simpa using hzr
                have HN : Hid (∃ A, Nums wr w.heap.size ps.length A ∧ FarM (stAt (stepsC ws ps vs)) (linkB ws vs) ps.length r (a + 1) A) := ⟨A, hA1, hA2.skip hal (by rw [hz]; exact hzr)⟩
                clear hzr hz hA1 hA2 hsz hcur
                go_wp2
                go_roundw
                case rel => exact ⟨a + 1, by omega, by go_num, hB, HN⟩
                case measure => simp [intOf]; omega
            · have ha' : a = ps.length := by omega
              subst ha'
              have HN : Hid (∃ A, Nums wr w.heap.size ps.length A ∧ FarB (stAt (stepsC ws ps vs)) ps.length ((r + 1 : Nat) : Int) A) := by
                obtain ⟨A, a1, a2⟩ := hcur.out
                refine ⟨A, a1, ?_⟩
                have := a2.end' hD hT (by omega) (by omega)
                simpa using this
              clear hcur
              go_wp2
              go_roundw
              case rel => exact ⟨r + 1, by omega, by omega, by go_num, hB, HN⟩
              case measure => simp [intOf]; omega
        · have hr' : r = ps.length := by omega
          subst hr'
          go_wp2
          go_ret
          obtain ⟨A, a1, a2⟩ := hcur.out
          exact ⟨⟨w.heap.size, A, rfl, Nat.le_refl _, a1, a2.size, fun j hj => a2.all hD hT j hj⟩, hB⟩
end Go.Proofs.YtgebcnnenhgkcaaGreat
