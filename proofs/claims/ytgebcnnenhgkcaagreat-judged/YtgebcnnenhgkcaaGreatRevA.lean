/- slices.Reverse at links: they come out the other way round, in the same row. -/
import Derived.Test.YtgebcnnenhgkcaaGreatLinkA
import Derived.BigRegion
namespace Go.Proofs.YtgebcnnenhgkcaaGreat
open Go.RowKit Go.Shelf

/-- Links as they lie in the block g, by a function of their place. -/
structure TriAt (w : World) (g n cap : Nat) (f : Nat → LkV) : Prop where
  c : ∀ j, j < n → w.cell? ⟨g, j * 3, none⟩ = some (I64 (f j).1.s) ∧ w.cell? ⟨g, j * 3 + 1, none⟩ = some (I64 (f j).1.t) ∧ w.cell? ⟨g, j * 3 + 2, none⟩ = some (f j).2
  hp : ∃ cur, w.heap[g]? = some (.cells cur 121 (0, 0)) ∧ cur.size = cap * 3
theorem TriAt.z {w : World} {g n cap : Nat} {f : Nat → LkV} (h : TriAt w g n cap f) (o : Nat) : w.frozen? ⟨g, o, none⟩ = false := by
  obtain ⟨cur, h1, _⟩ := h.hp
  exact frozen_of_heap h1 o
theorem TriAt.congr {w : World} {g n cap : Nat} {f f' : Nat → LkV} (h : TriAt w g n cap f) (he : ∀ j, j < n → f' j = f j) : TriAt w g n cap f' := ⟨fun j hj => by rw [he j hj]; exact h.c j hj, h.hp⟩
theorem TriAt.drew {w : World} {g n cap : Nat} {f : Nat → LkV} (h : TriAt w g n cap f) : TriAt w.drew g n cap f := ⟨h.c, h.hp⟩
/-- Three stores at a place of a block. -/
def putT (W : World) (g o : Nat) (a b c : Value) : World := ((W.setCell ⟨g, o, none⟩ a).setCell ⟨g, o + 1, none⟩ b).setCell ⟨g, o + 2, none⟩ c
theorem putT_chg (W : World) (g o : Nat) (a b c : Value) : Chg (fun k => k = g) W (putT W g o a b c) :=
  (((Chg.refl (fun k => k = g) W).setCell (p := ⟨g, o, none⟩) (.inl rfl) a).setCell (p := ⟨g, o + 1, none⟩) (.inl rfl) b).setCell (p := ⟨g, o + 2, none⟩) (.inl rfl) c
theorem putT_other {W : World} {g o : Nat} {a b c : Value} {q : Nat} (h0 : q ≠ o) (h1 : q ≠ o + 1) (h2 : q ≠ o + 2) : (putT W g o a b c).cell? ⟨g, q, none⟩ = W.cell? ⟨g, q, none⟩ := by
  unfold putT
  rw [World.cell?_setCell_other _ _ _ _ (by intro e; injection e with _ e; exact h2 e.symm), World.cell?_setCell_other _ _ _ _ (by intro e; injection e with _ e; exact h1 e.symm), World.cell?_setCell_other _ _ _ _ (by intro e; injection e with _ e; exact h0 e.symm)]
theorem TriAt.put {w : World} {g n cap : Nat} {f : Nat → LkV} (h : TriAt w g n cap f) {k : Nat} (hk : k < n) (x : LkV) : TriAt (putT w g (k * 3) (I64 x.1.s) (I64 x.1.t) x.2) g n cap (fun j => if j = k then x else f j) := by
  obtain ⟨k0, k1, k2⟩ := h.c k hk
  refine ⟨fun j hj => ?_, ?_⟩
  · by_cases e : j = k
    · subst e
      simp only [if_true]
      unfold putT
      refine ⟨?_, ?_, ?_⟩
      · rw [World.cell?_setCell_other _ _ _ _ (by simp), World.cell?_setCell_other _ _ _ _ (by simp)]
        exact World.cell?_setCell_same' _ _ _ (by rw [k0]; rfl)
      · rw [World.cell?_setCell_other _ _ _ _ (by simp)]
        exact World.cell?_setCell_same' _ _ _ (by rw [World.cell?_setCell_other _ _ _ _ (by simp), k1]; rfl)
      · exact World.cell?_setCell_same' _ _ _ (by rw [World.cell?_setCell_other _ _ _ _ (by simp), World.cell?_setCell_other _ _ _ _ (by simp), k2]; rfl)
    · simp only [if_neg e]
      rw [putT_other (by omega) (by omega) (by omega), putT_other (by omega) (by omega) (by omega), putT_other (by omega) (by omega) (by omega)]
      exact h.c j hj
  · obtain ⟨cur, h1, h2⟩ := h.hp
    unfold putT
    have a1 := heap_setCell_same w g (k * 3) _ _ (I64 x.1.s) h1
    have a2 := heap_setCell_same _ g (k * 3 + 1) _ _ (I64 x.1.t) a1
    have a3 := heap_setCell_same _ g (k * 3 + 2) _ _ x.2 a2
    exact ⟨_, a3, by simp [h2]⟩

theorem tri_of {w : World} {base g cap : Nat} {X : List LkV} (h : w.ownsRow base 121 3 (.slice (some ⟨g, 0, none⟩) X.length cap) X.length (lvRow X)) : TriAt w g X.length cap (fun j => X.getD j (⟨0, 0, []⟩, .slice none 0 0)) ∧ base ≤ g ∧ X.length ≤ cap ∧ cap ≤ maxLen := by
  have h' := h
  rcases h.2 with ⟨h1, _⟩ | ⟨g', cap', cur, h1, hb, hg, hle, hm, hs, ht⟩
  · simp at h1
  · simp only [Value.slice.injEq, Option.some.injEq, Addr.mk.injEq, true_and, and_true] at h1
    obtain ⟨rfl, rfl⟩ := h1
    refine ⟨⟨fun j hj => ?_, ⟨cur, hg, hs⟩⟩, hb, hle, hm⟩
    obtain ⟨x, hx⟩ : ∃ x, X[j]? = some x := ⟨_, List.getElem?_eq_getElem hj⟩
    have e : X.getD j (⟨0, 0, []⟩, .slice none 0 0) = x := by simp [hx]
    rw [e]
    have c0 := lvRow_at hx (i := 0) (u := I64 x.1.s) rfl
    have c1 := lvRow_at hx (i := 1) (u := I64 x.1.t) rfl
    have c2 := lvRow_at hx (i := 2) (u := x.2) rfl
    refine ⟨?_, ?_, ?_⟩
    · rw [(row_low h').cellAt _ (by omega)]; exact c0
    · rw [(row_low h').cellAt _ (by omega)]; exact c1
    · rw [(row_low h').cellAt _ (by omega)]; exact c2
theorem row_tri {w : World} {base g cap : Nat} {X : List LkV} (h : TriAt w g X.length cap (fun j => X.getD j (⟨0, 0, []⟩, .slice none 0 0))) (hb : base ≤ g) (hle : X.length ≤ cap) (hm : cap ≤ maxLen) : w.ownsRow base 121 3 (.slice (some ⟨g, 0, none⟩) X.length cap) X.length (lvRow X) := by
  obtain ⟨cur, h1, h2⟩ := h.hp
  refine ⟨lvRow_length X, .inr ⟨g, cap, cur, rfl, hb, h1, hle, hm, h2, ?_⟩⟩
  apply List.ext_getElem?
  intro i
  by_cases hi : i < X.length * 3
  · rw [List.getElem?_take_of_lt hi]
    have hj : i / 3 < X.length := by omega
    obtain ⟨x, hx⟩ : ∃ x, X[i / 3]? = some x := ⟨_, List.getElem?_eq_getElem hj⟩
    have hc := h.c (i / 3) hj
    have e : X.getD (i / 3) (⟨0, 0, []⟩, .slice none 0 0) = x := by simp [hx]
    rw [e, cell_of_heap h1, cell_of_heap h1, cell_of_heap h1] at hc
    rcases (by omega : i = i / 3 * 3 + 0 ∨ i = i / 3 * 3 + 1 ∨ i = i / 3 * 3 + 2) with e3 | e3 | e3
    · rw [e3, lvRow_at hx (i := 0) (u := I64 x.1.s) rfl]; simpa using hc.1
    · rw [e3, lvRow_at hx (i := 1) (u := I64 x.1.t) rfl]; simpa using hc.2.1
    · rw [e3, lvRow_at hx (i := 2) (u := x.2) rfl]; simpa using hc.2.2
  · rw [List.getElem?_eq_none (by simp; omega), List.getElem?_eq_none (by rw [lvRow_length]; omega)]

/-- While it is turned round: the first k and the last k are. -/
def rvF (n k : Nat) (F : Nat → LkV) (x : Nat) : LkV := if x < k ∨ n ≤ x + k then F (n - 1 - x) else F x

set_option maxRecDepth 100000 in
set_option maxHeartbeats 4000000 in
theorem reverse_at (base g cap : Nat) (X : List LkV) (w : World) (h : w.ownsRow base 121 3 (.slice (some ⟨g, 0, none⟩) X.length cap) X.length (lvRow X)) (hs : ∀ x ∈ X, ∃ p l c, x.2 = .slice p l c) :
    Calls Tryz.prog 122 #[.slice (some ⟨g, 0, none⟩) X.length cap] w fun e w' => e = .returned (.tuple #[]) ∧ w'.ownsRow base 121 3 (.slice (some ⟨g, 0, none⟩) X.length cap) X.length (lvRow X.reverse) ∧ Chg (fun k => k = g) w w' := by
  obtain ⟨hT, hb, hle, hm⟩ := tri_of h
  have hl : X.length ≤ 9223372036854775807 := by unfold maxLen at hm; omega
  obtain ⟨F, hF⟩ : ∃ F : Nat → LkV, (fun j => X.getD j (⟨0, 0, []⟩, .slice none 0 0)) = F := ⟨_, rfl⟩
  have HS : Hid (∀ j, j < X.length → ∃ s t vs p l c, F j = (⟨s, t, vs⟩, .slice p l c)) := fun j hj => by
    obtain ⟨x, hx⟩ : ∃ x, X[j]? = some x := ⟨_, List.getElem?_eq_getElem hj⟩
    obtain ⟨p, l, c, e⟩ := hs x (List.mem_of_getElem? hx)
    refine ⟨x.1.s, x.1.t, x.1.vs, p, l, c, ?_⟩
    rw [← hF]
    simp only [List.getD, hx, Option.getD_some]
    rw [← e]
  have HE : Hid (∀ W, TriAt W g X.length cap (fun j => F (X.length - 1 - j)) → W.ownsRow base 121 3 (.slice (some ⟨g, 0, none⟩) X.length cap) X.length (lvRow X.reverse)) := fun W hW => by
    have h1 : TriAt W g X.reverse.length cap (fun j => X.reverse.getD j (⟨0, 0, []⟩, .slice none 0 0)) := by
      rw [List.length_reverse]
      refine hW.congr (fun j hj => ?_)
      rw [← hF]
      simp only [List.getD]
      rw [List.getElem?_reverse hj]
    have h2 := row_tri h1 hb (by simpa using hle) hm
    rw [List.length_reverse] at h2
    exact h2
  rw [hF] at hT
  clear hF h hs
  obtain ⟨n, hn⟩ : ∃ n, X.length = n := ⟨_, rfl⟩
  rw [hn] at hT HS hl ⊢
  have HN : Hid (X.length = n) := hn
  have hT0 : TriAt w g n cap (rvF n 0 F) := hT.congr (fun j hj => by unfold rvF; rw [if_neg (by omega)])
  clear hn hT
  go_enter Tryz.func122, Tryz.ntmps122
  go_wp2_with fail
  go_loopw [2, 3] (fun ii jj wr => ∃ k : Nat, 2 * k ≤ n + 1 ∧ ii = .int .i64 k ∧ jj = .int .i64 ((n : Int) - 1 - k) ∧ TriAt wr g n cap (rvF n k F) ∧ Chg (fun k => k = g) w wr) (fun ii _ _ => n - (intOf ii).toNat)
  case atStart => exact ⟨0, by omega, rfl, by simp, hT0, Chg.refl _ _⟩
  case round =>
    clear hT0
    obtain ⟨k, hk, rfl, rfl, hT, hc⟩ := hrel
    by_cases hlt : 2 * k + 1 < n
    · have hj : (n : Int) - 1 - (k : Int) = ((n - 1 - k : Nat) : Int) := by omega
      obtain ⟨j, hjj⟩ : ∃ j, n - 1 - k = j := ⟨_, rfl⟩
      rw [hjj] at hj
      have hkj : (k : Int) < (j : Int) := by omega
      have hkn : (k : Int) < (n : Int) := by omega
      have hjn : (j : Int) < (n : Int) := by omega
      have hkN : k < n := by omega
      have hjN : j < n := by omega
      have e1 : rvF n k F k = F k := by unfold rvF; rw [if_neg (by omega)]
      have e2 : rvF n k F j = F j := by unfold rvF; rw [if_neg (by omega)]
      obtain ⟨s1, t1, v1, p1, l1, c1, f1⟩ := HS.out k hkN
      obtain ⟨s2, t2, v2, p2, l2, c2, f2⟩ := HS.out j hjN
      have ck := hT.c k hkN
      have cj := hT.c j hjN
      rw [e1, f1] at ck
      rw [e2, f2] at cj
      obtain ⟨a0, a1, a2⟩ := ck
      obtain ⟨b0, b1, b2⟩ := cj
      have fz := hT.z
      have hA := (hT.put hkN (⟨s2, t2, v2⟩, .slice p2 l2 c2)).put hjN (⟨s1, t1, v1⟩, .slice p1 l1 c1)
      have hB := (hT.put hjN (⟨s1, t1, v1⟩, .slice p1 l1 c1)).put hkN (⟨s2, t2, v2⟩, .slice p2 l2 c2)
      have hA' := hA.congr (f' := rvF n (k + 1) F) (fun x hx => by
        by_cases x1 : x = j
        · rw [if_pos x1, ← f1]; unfold rvF; rw [if_pos (by omega)]; congr 1; omega
        · rw [if_neg x1]
          by_cases x2 : x = k
          · rw [if_pos x2, ← f2]; unfold rvF; rw [if_pos (by omega)]; congr 1; omega
          · rw [if_neg x2]; unfold rvF
            by_cases x3 : x < k ∨ n ≤ x + k
            · rw [if_pos x3, if_pos (by omega)]
            · rw [if_neg x3, if_neg (by omega)])
      have hB' := hB.congr (f' := rvF n (k + 1) F) (fun x hx => by
        by_cases x2 : x = k
        · rw [if_pos x2, ← f2]; unfold rvF; rw [if_pos (by omega)]; congr 1; omega
        · rw [if_neg x2]
          by_cases x1 : x = j
          · rw [if_pos x1, ← f1]; unfold rvF; rw [if_pos (by omega)]; congr 1; omega
          · rw [if_neg x1]; unfold rvF
            by_cases x3 : x < k ∨ n ≤ x + k
            · rw [if_pos x3, if_pos (by omega)]
            · rw [if_neg x3, if_neg (by omega)])
      have HA : Hid _ := hA'.drew
      have HB : Hid _ := hB'.drew
      have HCA : Hid (Chg (fun k => k = g) w (putT (putT wr g (k * 3) (I64 s2) (I64 t2) (.slice p2 l2 c2)) g (j * 3) (I64 s1) (I64 t1) (.slice p1 l1 c1)).drew) := ((hc.trans (putT_chg _ _ _ _ _ _)).trans (putT_chg _ _ _ _ _ _)).drew
      have HCB : Hid (Chg (fun k => k = g) w (putT (putT wr g (j * 3) (I64 s1) (I64 t1) (.slice p1 l1 c1)) g (k * 3) (I64 s2) (I64 t2) (.slice p2 l2 c2)).drew) := ((hc.trans (putT_chg _ _ _ _ _ _)).trans (putT_chg _ _ _ _ _ _)).drew
      clear hA hB hA' hB' hT hc e1 e2 f1 f2
      rw [hj]
      clear hj
      have d1 : k * 3 ≠ j * 3 := by omega
      have hjk : k < j := by omega
      have HJ : Hid (n - 1 - k = j) := hjj
      clear hjj
      go_wp2_with fail
      go_region
      all_goals
        go_wp2
        go_roundw
        case rel => exact ⟨k + 1, by omega, by go_num, by congr 1; have := HJ.out; omega, by first | exact HA.out | exact HB.out, by first | exact HCA.out | exact HCB.out⟩
        case measure => simp [intOf]; omega
    · have hge : ¬ (k : Int) < (n : Int) - 1 - (k : Int) := by omega
      have hT' : TriAt wr g n cap (fun j => F (n - 1 - j)) := hT.congr (fun x hx => by
        unfold rvF
        by_cases x3 : x < k ∨ n ≤ x + k
        · rw [if_pos x3]
        · rw [if_neg x3]; congr 1; omega)
      have hfin := HE.out wr (by rw [HN.out]; exact hT')
      rw [HN.out] at hfin
      clear hT' hT
      go_wp2
      refine ⟨rfl, .tuple #[], ?_, rfl, ?_, hc⟩
      · simp [results, Tryz.f122]
      · exact hfin
theorem reverse_nil (w : World) : Calls Tryz.prog 122 #[.slice none 0 0] w fun e w' => e = .returned (.tuple #[]) ∧ w' = w := by
  go_enter Tryz.func122, Tryz.ntmps122
  go_wp2_with fail
  go_rounds 1
  refine ⟨rfl, .tuple #[], ?_, rfl, rfl⟩
  simp [results, Tryz.f122]
end Go.Proofs.YtgebcnnenhgkcaaGreat
