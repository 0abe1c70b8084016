/- The document's own answer: has, Tree, against. -/
import Derived.Test.YtgebcnnenhgkcaaJudgeF
namespace Go.Proofs.Ytgebcnnenhgkcaa
open Go.RowKit Go.Shelf

theorem rHas_at (pl : Option Addr) (cl : Nat) (l : List Int) (v : Int) (w : World) (hr : IntsAt w pl l) (hm : l.length ≤ maxLen) :
    Calls Try.prog 75 #[.slice pl l.length cl, .int .i64 v] w fun e w' => e = .returned (.bool (hasV l v)) ∧ w' = w := by
  have hml : l.length ≤ 9223372036854775807 := by unfold maxLen at hm; omega
  clear hm
  go_enter Try.func75, Try.ntmps75
  go_wp2
  go_loop [5] (fun i => ∃ k : Nat, k ≤ l.length ∧ i = .int .i64 k ∧ Hid (hasV (l.take k) v = false)) (fun i => l.length - (intOf i).toNat)
  case atStart => exact ⟨0, by omega, rfl, rfl⟩
  case round =>
    obtain ⟨k, hk, rfl, HV⟩ := hrel
    by_cases hlt : k < l.length
    · have hlt' : (k : Int) < (l.length : Int) := by omega
      rcases hr with rfl | ⟨gl, ol, rfl, hcl⟩
      · simp at hlt
      obtain ⟨y, hy⟩ : ∃ y, l[k]? = some y := ⟨_, List.getElem?_eq_getElem hlt⟩
      have hc : w.cell? ⟨gl, ol + k, none⟩ = some (I64 y) := by have := hcl k hlt; rw [hy] at this; exact this
      have HY : Hid (l[k]? = some y) := hy
      clear hcl hy
      by_cases e : y = v
      · have q : (y == v) = true := by simpa using e
        have HB : Hid (hasV l v = true) := by show _ = _; rw [hasV_iff, ← e]; exact List.mem_of_getElem? HY.out
        clear e
        go_wp2
        go_ret
        exact ⟨by rw [HB.out]; rfl, rfl⟩
      · have q : (y == v) = false := by simpa using e
        have HB : Hid (hasV (l.take (k + 1)) v = false) := by
          show _ = _
          rw [List.take_add_one, HY.out]
          have h1 := HV.out
          unfold hasV at h1 ⊢
          rw [List.any_append, h1]
          simp [e]
        clear e
        go_wp2
        go_round
        case rel => exact ⟨k + 1, by omega, by go_num, HB⟩
        case measure => simp [intOf]; omega
    · have HB : Hid (hasV l v = false) := by have := HV.out; rw [List.take_of_length_le (by omega)] at this; exact this
      clear HV
      go_wp2
      go_ret
      exact ⟨by rw [HB.out]; rfl, rfl⟩

set_option maxRecDepth 100000 in
set_option maxHeartbeats 2000000 in
theorem rTree_at (p : Option Addr) (c : Nat) (ps : List Int) (w : World) (hx : IntsAt w p ps) (hl : ps.length ≤ maxLen) :
    Calls Try.prog 48 #[.slice p ps.length c] w fun e w' => e = .returned (.bool (treeB ps)) ∧ w' = w := by
  have hml : ps.length ≤ 9223372036854775807 := by unfold maxLen at hl; omega
  clear hl
  by_cases hn1 : ps.length < 1
  · have hn1' : (ps.length : Int) < 1 := by omega
    have HB : Hid (treeB ps = false) := by show _ = _; unfold treeB; simp; omega
    go_enter Try.func48, Try.ntmps48
    go_wp2
    go_ret
    exact ⟨by rw [HB.out]; rfl, rfl⟩
  have hn1' : ¬ (ps.length : Int) < 1 := by omega
  by_cases hn2 : ps.length > 40
  · have hn2' : (ps.length : Int) > 40 := by omega
    have HB : Hid (treeB ps = false) := by show _ = _; unfold treeB; simp; omega
    go_enter Try.func48, Try.ntmps48
    go_wp2
    go_ret
    exact ⟨by rw [HB.out]; rfl, rfl⟩
  have hn2' : ¬ (ps.length : Int) > 40 := by omega
  rcases hx with rfl | ⟨g, o, rfl, hcs⟩
  · simp at hn1
  have h0p : (0 : Int) < (ps.length : Int) := by omega
  have h0n : 0 < ps.length := by omega
  obtain ⟨y, hy⟩ : ∃ y, ps[0]?.getD 0 = y := ⟨_, rfl⟩
  have hc0 : w.cell? ⟨g, o, none⟩ = some (I64 y) := by have := hcs 0 h0n; rw [hy] at this; simpa using this
  have HT : Hid (treeB ps = ((y == 0) && parsB ps ps.length)) := by
    show _ = _
    unfold treeB
    have q1 : decide (1 ≤ ps.length) = true := by simp; omega
    have q2 : decide (ps.length ≤ 40) = true := by simp; omega
    rw [q1, q2, hy]; rfl
  have HCS : Hid (∀ j, j < ps.length → w.cell? ⟨g, o + j, none⟩ = some (I64 (ps[j]?.getD 0))) := hcs
  clear hcs hy
  by_cases hy0 : y = 0
  · have q : (y != 0) = false := by simpa using hy0
    have HT' : Hid (treeB ps = parsB ps ps.length) := by show _ = _; rw [HT.out, hy0]; simp
    clear HT hy0
    go_enter Try.func48, Try.ntmps48
    go_wp2_with fail
    go_loop [3] (fun i => ∃ k : Nat, 1 ≤ k ∧ k ≤ ps.length ∧ i = .int .i64 k ∧ Hid (parsB ps k = true)) (fun i => ps.length - (intOf i).toNat)
    case atStart => exact ⟨1, by omega, by omega, rfl, rfl⟩
    case round =>
      obtain ⟨k, hk1, hk, rfl, HP⟩ := hrel
      by_cases hlt : k < ps.length
      · have hlt' : (k : Int) < (ps.length : Int) := by omega
        obtain ⟨z, hz⟩ : ∃ z, ps[k]?.getD 0 = z := ⟨_, rfl⟩
        have hcz : w.cell? ⟨g, o + k, none⟩ = some (I64 z) := by rw [← hz]; exact HCS.out k hlt
        have HS : Hid (parsB ps (k + 1) = (decide (0 ≤ z) && decide (z < (k : Int)))) := by
          show _ = _
          simp only [parsB]
          rw [HP.out, Bool.true_and]
          unfold parB
          rw [hz]
          have : decide (k = 0) = false := by simp; omega
          rw [this, Bool.false_or]
        have HF : Hid (parsB ps (k + 1) = false → treeB ps = false) := fun hf => by rw [HT'.out]; exact parsB_up hf (by omega)
        clear hz
        by_cases c1 : z < 0
        · have HB : Hid (treeB ps = false) := HF.out (by rw [HS.out]; simp; omega)
          clear HS HF
          go_wp2
          go_ret
          exact ⟨by rw [HB.out]; rfl, rfl⟩
        · by_cases c2 : z ≥ (k : Int)
          · have HB : Hid (treeB ps = false) := HF.out (by rw [HS.out]; simp; omega)
            clear HS HF
            go_wp2
            go_ret
            exact ⟨by rw [HB.out]; rfl, rfl⟩
          · have HB : Hid (parsB ps (k + 1) = true) := by show _ = _; rw [HS.out]; simp; omega
            clear HS HF
            go_wp2
            go_round
            case rel => exact ⟨k + 1, by omega, by omega, by go_num, HB⟩
            case measure => simp [intOf]; omega
      · have hkk : k = ps.length := by omega
        have HB : Hid (treeB ps = true) := by show _ = _; rw [HT'.out, ← hkk]; exact HP.out
        clear hkk
        go_wp2
        go_ret
        exact ⟨by rw [HB.out]; rfl, rfl⟩
  · have q : (y != 0) = true := by simpa using hy0
    have HB : Hid (treeB ps = false) := by show _ = _; rw [HT.out]; simp [hy0]
    clear HT hy0
    go_enter Try.func48, Try.ntmps48
    go_wp2
    go_ret
    exact ⟨by rw [HB.out]; rfl, rfl⟩

theorem kindI_nn (ps : List Int) (x y : Vt) : 0 ≤ kindI ps x y := by
  unfold kindI
  split
  · omega
  · split
    · omega
    · split <;> omega
/-- The first vote of a voter by links that stands against one of his. -/
def innerV (ps : List Int) (l : Lk) (M : List Lk) (v : Int) : Option Vt := if hasV l.vs v = true then (ofL M v).find? (fun y => decide (kindI ps ⟨v, l.s, l.t⟩ y ≠ 0)) else none
theorem ofL_cons (l : Lk) (r : List Lk) (v : Int) : ofL (l :: r) v = if hasV l.vs v = true then ⟨v, l.s, l.t⟩ :: ofL r v else ofL r v := by
  unfold ofL
  by_cases e : hasV l.vs v = true <;> simp [e]
theorem drop_of {α : Type} {L : List α} {i : Nat} {x : α} (h : L[i]? = some x) : L.drop i = x :: L.drop (i + 1) := by
  obtain ⟨hlt, rfl⟩ := List.getElem?_eq_some_iff.1 h
  exact List.drop_eq_getElem_cons hlt
theorem judgeV_drop {ps : List Int} {L M : List Lk} {i : Nat} {l : Lk} (v : Int) (h : L[i]? = some l) : judgeV ps (L.drop i) M v = match innerV ps l M v with
    | some y => some ⟨v, kindI ps ⟨v, l.s, l.t⟩ y, ⟨v, l.s, l.t⟩, y⟩
    | none => judgeV ps (L.drop (i + 1)) M v := by
  rw [drop_of h]
  unfold judgeV innerV
  rw [ofL_cons]
  by_cases e : hasV l.vs v = true
  · rw [if_pos e, if_pos e]
    rw [show ∀ (K : Vt → Vt → Int) (x : Vt) (r o : List Vt), firstF K (x :: r) o = (match o.find? (fun y => decide (K x y ≠ 0)) with | some y => some (K x y, x, y) | none => firstF K r o) from fun _ _ _ _ => rfl]
    cases (ofL M v).find? (fun y => decide (kindI ps ⟨v, l.s, l.t⟩ y ≠ 0)) <;> rfl
  · rw [if_neg e, if_neg e]
theorem innerV_drop {ps : List Int} {l : Lk} {M : List Lk} {j : Nat} {m : Lk} (v : Int) (h : M[j]? = some m) : innerV ps l (M.drop j) v = if hasV l.vs v = true ∧ hasV m.vs v = true ∧ kindI ps ⟨v, l.s, l.t⟩ ⟨v, m.s, m.t⟩ ≠ 0 then some ⟨v, m.s, m.t⟩ else innerV ps l (M.drop (j + 1)) v := by
  rw [drop_of h]
  unfold innerV
  rw [ofL_cons]
  by_cases e : hasV l.vs v = true
  · rw [if_pos e, if_pos e]
    by_cases e2 : hasV m.vs v = true
    · rw [if_pos e2]
      by_cases e3 : kindI ps ⟨v, l.s, l.t⟩ ⟨v, m.s, m.t⟩ ≠ 0
      · rw [if_pos ⟨e, e2, e3⟩, List.find?_cons_of_pos (by simpa using e3)]
      · rw [if_neg (fun h => e3 h.2.2), List.find?_cons_of_neg (by simpa using e3)]
    · rw [if_neg e2, if_neg (fun h => e2 h.2.1)]
  · rw [if_neg e, if_neg e, if_neg (fun h => e h.1)]
theorem innerV_nil (ps : List Int) (l : Lk) (v : Int) : innerV ps l [] v = none := by
  unfold innerV ofL
  split <;> rfl
theorem judgeV_nil (ps : List Int) (M : List Lk) (v : Int) : judgeV ps [] M v = none := rfl

/-- Three stores into a block. -/
theorem three_heap {W : World} {n : Nat} {c0 c1 c2 : Value} {t : TypeId} (h : W.heap[n]? = some (.cells #[c0, c1, c2] t (0, 0))) (a b c : Value) : (((W.setCell ⟨n, 0, none⟩ a).setCell ⟨n, 1, none⟩ b).setCell ⟨n, 2, none⟩ c).heap[n]? = some (.cells #[a, b, c] t (0, 0)) := by
  have h0 : (W.setCell ⟨n, 0, none⟩ a).heap[n]? = some (.cells #[a, c1, c2] t (0, 0)) := heap_setCell_same _ n 0 _ _ _ h
  have h1 : ((W.setCell ⟨n, 0, none⟩ a).setCell ⟨n, 1, none⟩ b).heap[n]? = some (.cells #[a, b, c2] t (0, 0)) := heap_setCell_same _ n 1 _ _ _ h0
  exact heap_setCell_same _ n 2 _ _ _ h1
theorem three_below {w W : World} {B n : Nat} (h : Below B w W) (hn : B ≤ n) (a b c : Value) : Below B w (((W.setCell ⟨n, 0, none⟩ a).setCell ⟨n, 1, none⟩ b).setCell ⟨n, 2, none⟩ c) :=
  ((h.setCell (p := ⟨n, 0, none⟩) hn _).setCell (p := ⟨n, 1, none⟩) hn _).setCell (p := ⟨n, 2, none⟩) hn _
theorem three_cells {W : World} {n : Nat} {c0 c1 c2 : Value} {t : TypeId} (h : W.heap[n]? = some (.cells #[c0, c1, c2] t (0, 0))) : (W.cell? ⟨n, 0, none⟩ = some c0 ∧ W.cell? ⟨n, 1, none⟩ = some c1 ∧ W.cell? ⟨n, 2, none⟩ = some c2) ∧ ∀ o, W.frozen? ⟨n, o, none⟩ = false :=
  ⟨⟨by rw [cell_of_heap h]; rfl, by rw [cell_of_heap h]; rfl, by rw [cell_of_heap h]; rfl⟩, fun o => frozen_of_heap h o⟩

set_option maxRecDepth 100000 in
set_option maxHeartbeats 8000000 in
theorem against_at (b gw ow cw gp op cp : Nat) (ws ps : List Int) (X Y : List LkV) (p1 p2 : Option Addr) (c1 c2 : Nat) (u : Int) (w : World) (h : RIn w b gw ow cw gp op cp ws ps) (hT : Tree ps) (h1 : LkAt w p1 X) (h2 : LkAt w p2 Y) (hX : X.length ≤ 40) (hY : Y.length ≤ 40)
    (hbX : ∀ x ∈ X, OkB ps ⟨u, x.1.s, x.1.t⟩) (hbY : ∀ x ∈ Y, OkB ps ⟨u, x.1.s, x.1.t⟩) :
    Calls Try.prog 51 #[.pointer (some ⟨b, 0, none⟩), .int .i64 u, .slice p1 X.length c1, .slice p2 Y.length c2] w fun e w' => e = .returned (guV (judgeV ps (X.map (fun x => x.1)) (Y.map (fun x => x.1)) u)) ∧ Below w.heap.size w w' := by
  have hBa : Below w.heap.size w (w.alloc (.cells #[I64 0, I64 0, I64 0, I64 0, I64 0, I64 0, I64 0, I64 0] 73)) := (Below.refl _ w).alloc (Nat.le_refl _) _
  obtain ⟨L, hL⟩ : ∃ L, X.map (fun x => x.1) = L := ⟨_, rfl⟩
  obtain ⟨M, hM⟩ : ∃ M, Y.map (fun x => x.1) = M := ⟨_, rfl⟩
  have HXL : Hid (∀ (i : Nat) (x : LkV), X[i]? = some x → L[i]? = some x.1) := fun i x hx => by rw [← hL]; simp [hx]
  have HYM : Hid (∀ (i : Nat) (x : LkV), Y[i]? = some x → M[i]? = some x.1) := fun i x hx => by rw [← hM]; simp [hx]
  have HLl : Hid (L.length = X.length) := by show _ = _; rw [← hL]; simp
  have HMl : Hid (M.length = Y.length) := by show _ = _; rw [← hM]; simp
  rw [hL, hM]
  clear hL hM
  go_enter Try.func51, Try.ntmps51
  go_wp2
  obtain ⟨w1, hw1⟩ : ∃ wa, w.alloc (.cells #[I64 0, I64 0, I64 0, I64 0, I64 0, I64 0, I64 0, I64 0] 73) = wa := ⟨_, rfl⟩
  have hr1 : w1.heap[w.heap.size]? = some (.cells #[I64 0, I64 0, I64 0, I64 0, I64 0, I64 0, I64 0, I64 0] 73 (0, 0)) := by rw [← hw1]; exact heap_alloc_new w _
  have hza : w1.heap.size = w.heap.size + 1 := by rw [← hw1]; simp
  rw [hw1] at hBa ⊢
  clear hw1
  have hA := (h.below hT hBa).tr
  have h11 := h1.below hBa
  have h21 := h2.below hBa
  have hlb := hA.lt_b
  have hlg := hA.lt_g hT.1
  clear h h1 h2
  have HBX : Hid _ := hbX
  have HBY : Hid _ := hbY
  clear hbX hbY
  go_loopw [9] (fun ii wr => ∃ i : Nat, i ≤ X.length ∧ ii = .int .i64 i ∧ Below w1.heap.size w1 wr ∧ Hid (judgeV ps L M u = judgeV ps (L.drop i) M u)) (fun ii _ => X.length - (intOf ii).toNat)
  case atStart => exact ⟨0, by omega, rfl, Below.refl _ _, by simp [Hid]⟩
  case round =>
    obtain ⟨i, hi, rfl, hB, hP⟩ := hrel
    by_cases hlt : i < X.length
    · have hlt' : (i : Int) < (X.length : Int) := by omega
      obtain ⟨x, hx⟩ : ∃ x, X[i]? = some x := ⟨_, List.getElem?_eq_getElem hlt⟩
      have hxm := List.mem_of_getElem? hx
      have HP : Hid _ := hP.out.trans (judgeV_drop (ps := ps) (M := M) u (HXL.out i x hx))
      have hxb := HBX.out x hxm
      rcases h11.at' with e | ⟨g1, o1, rfl, hc1⟩
      · rw [e] at hlt; simp at hlt
      obtain ⟨pv, cv, hxv, hiv, hvm⟩ := h11.vs x hxm
      obtain ⟨x0, x1, x2⟩ := hc1 i x hx
      rw [hxv] at x2
      have hg1 : g1 < w1.heap.size := World.block_lt_of_cell? w1 _ x0
      obtain ⟨⟨s, t, V⟩, vx⟩ := x
      dsimp only at HP hxb hxv hiv hvm x0 x1 x2
      clear hP hx hxm hc1 hxv
      go_wp2
      go_loopw [10] (fun jj wr2 => ∃ j : Nat, j ≤ Y.length ∧ jj = .int .i64 j ∧ Below w1.heap.size w1 wr2 ∧ Hid (innerV ps ⟨s, t, V⟩ M u = innerV ps ⟨s, t, V⟩ (M.drop j) u)) (fun jj _ => Y.length - (intOf jj).toNat)
      case atStart => exact ⟨0, by omega, rfl, hB, by simp [Hid]⟩
      case round =>
        clear hB
        obtain ⟨j, hj, rfl, hB, hF⟩ := hrel
        by_cases hjl : j < Y.length
        · have hjl' : (j : Int) < (Y.length : Int) := by omega
          obtain ⟨y, hy⟩ : ∃ y, Y[j]? = some y := ⟨_, List.getElem?_eq_getElem hjl⟩
          have hym := List.mem_of_getElem? hy
          have HQ : Hid _ := hF.out.trans (innerV_drop (ps := ps) (l := ⟨s, t, V⟩) u (HYM.out j y hy))
          have hyb := HBY.out y hym
          rcases h21.at' with e | ⟨g2, o2, rfl, hc2⟩
          · rw [e] at hjl; simp at hjl
          obtain ⟨pz, cz, hyv, hiz, hzm⟩ := h21.vs y hym
          obtain ⟨y0, y1, y2⟩ := hc2 j y hy
          rw [hyv] at y2
          have hg2 : g2 < w1.heap.size := World.block_lt_of_cell? w1 _ y0
          obtain ⟨⟨s', t', V'⟩, vy⟩ := y
          dsimp only at HQ hyb hyv hiz hzm y0 y1 y2
          have d0 := (hB.cell (p := ⟨g1, o1 + i * 3, none⟩) hg1).trans x0
          have d1 := (hB.cell (p := ⟨g1, o1 + i * 3 + 1, none⟩) hg1).trans x1
          have d2 := (hB.cell (p := ⟨g1, o1 + i * 3 + 2, none⟩) hg1).trans x2
          have k0 := (hB.cell (p := ⟨g2, o2 + j * 3, none⟩) hg2).trans y0
          have k1 := (hB.cell (p := ⟨g2, o2 + j * 3 + 1, none⟩) hg2).trans y1
          have k2 := (hB.cell (p := ⟨g2, o2 + j * 3 + 2, none⟩) hg2).trans y2
          have hhx := rHas_at pv cv V u wr (hiv.below' hB) hvm
          have hhy := rHas_at pz cz V' u wr (hiz.below' hB) hzm
          have HKD := fun W hA => rKind_at b gp op cp ps hT ⟨u, s, t⟩ ⟨u, s', t'⟩ rfl hxb hyb W hA
          have hkp := kindI_nn ps ⟨u, s, t⟩ ⟨u, s', t'⟩
          clear hF hy hym hc2 hyv x0 x1 x2 y0 y1 y2 h11 h21
          go_wp2_with fail
          refine hhx.mono ?_
          rintro e wq ⟨rfl, hwq⟩
          subst hwq
          go_wp2_with fail
          refine hhy.mono ?_
          rintro e wq ⟨rfl, hwq⟩
          subst hwq
          clear hhx hhy d2 k2
          cases hq1 : hasV V u
          · have HF2 : Hid (innerV ps ⟨s, t, V⟩ M u = innerV ps ⟨s, t, V⟩ (M.drop (j + 1)) u) := by show _ = _; rw [HQ.out, if_neg (by rw [hq1]; simp)]
            clear HQ hq1 hkp
            go_wp2
            go_roundw
            case rel => exact ⟨j + 1, by omega, by go_num, hB, HF2⟩
            case measure => simp [intOf]; omega
          cases hq2 : hasV V' u
          · have HF2 : Hid (innerV ps ⟨s, t, V⟩ M u = innerV ps ⟨s, t, V⟩ (M.drop (j + 1)) u) := by show _ = _; rw [HQ.out, if_neg (by rw [hq2]; simp)]
            clear HQ hq1 hq2 hkp
            go_wp2
            go_roundw
            case rel => exact ⟨j + 1, by omega, by go_num, hB, HF2⟩
            case measure => simp [intOf]; omega
          have HQ2 : Hid (innerV ps ⟨s, t, V⟩ M u = if kindI ps ⟨u, s, t⟩ ⟨u, s', t'⟩ ≠ 0 then some ⟨u, s', t'⟩ else innerV ps ⟨s, t, V⟩ (M.drop (j + 1)) u) := by
            show _ = _
            rw [HQ.out]
            by_cases e : kindI ps ⟨u, s, t⟩ ⟨u, s', t'⟩ ≠ 0
            · rw [if_pos ⟨hq1, hq2, e⟩, if_pos e]
            · rw [if_neg (fun h => e h.2.2), if_neg e]
          clear HQ hq1 hq2
          go_wp2_with fail
          refine wp_region_held_drew (S := fun w' => w'.cell? ⟨g1, o1 + i * 3, none⟩ = some (I64 s) ∧ w'.cell? ⟨g1, o1 + i * 3 + 1, none⟩ = some (I64 t)) (by kernel_rfl) ⟨d0, d1⟩ (fun hHeld => ?_)
          refine takeH (i := 0) (v := ?vv1) rfl (by kernel_rfl) (by kernel_rfl) (by kernel_rfl) (fun _ _ _ h => h) (Or.inl ⟨by rfl, ?hy1⟩) (by assumption) ?rest1
          case hy1 => (intro w hSw; (try dsimp only at hSw); go_simp; try with_reducible rfl)
          try simp only [Act.put, List.setIfInBounds_toArray, List.set_cons_zero, List.set_cons_succ]
          refine takeH (i := 1) (v := ?vv2) rfl (by kernel_rfl) (by kernel_rfl) (by kernel_rfl) (fun _ _ _ h => h) (Or.inl ⟨by rfl, ?hy2⟩) (by assumption) ?rest2
          case hy2 => (intro w hSw; (try dsimp only at hSw); go_simp; try with_reducible rfl)
          try simp only [Act.put, List.setIfInBounds_toArray, List.set_cons_zero, List.set_cons_succ]
          refine takeH (i := 2) (v := ?vv3) rfl (by kernel_rfl) (by kernel_rfl) (by kernel_rfl) (fun _ _ _ h => h) (Or.inl ⟨by rfl, ?hy3⟩) (by assumption) ?rest3
          case hy3 => (intro w hSw; (try dsimp only at hSw); go_simp; try with_reducible rfl)
          try simp only [Act.put, List.setIfInBounds_toArray, List.set_cons_zero, List.set_cons_succ]
          refine takeH (i := 3) (v := ?vv4) rfl (by kernel_rfl) (by kernel_rfl) (by kernel_rfl) (fun _ _ _ h => h) (Or.inl ⟨by rfl, ?hy4⟩) (by assumption) ?rest4
          case hy4 => (intro w hSw; (try dsimp only at hSw); go_simp; try with_reducible rfl)
          try simp only [Act.put, List.setIfInBounds_toArray, List.set_cons_zero, List.set_cons_succ]
          refine takeH (i := 4) (v := ?vv5) rfl (by kernel_rfl) (by kernel_rfl) (by kernel_rfl) (fun _ _ _ h => h) (Or.inl ⟨by rfl, ?hy5⟩) (by assumption) ?rest5
          case hy5 => (intro w hSw; (try dsimp only at hSw); go_simp; try with_reducible rfl)
          try simp only [Act.put, List.setIfInBounds_toArray, List.set_cons_zero, List.set_cons_succ]
          refine takeH (i := 5) (v := ?vv6) rfl (by kernel_rfl) (by kernel_rfl) (by kernel_rfl) (fun _ _ _ h => h) (Or.inl ⟨by rfl, ?hy6⟩) (by assumption) ?rest6
          case hy6 => (intro w hSw; (try dsimp only at hSw); go_simp; try with_reducible rfl)
          try simp only [Act.put, List.setIfInBounds_toArray, List.set_cons_zero, List.set_cons_succ]
          refine takeH (i := 6) (v := ?vv7) rfl (by kernel_rfl) (by kernel_rfl) (by kernel_rfl) (fun _ _ _ h => h) (Or.inl ⟨by rfl, ?hy7⟩) (by assumption) ?rest7
          case hy7 => (intro w hSw; (try dsimp only at hSw); go_simp; try with_reducible rfl)
          try simp only [Act.put, List.setIfInBounds_toArray, List.set_cons_zero, List.set_cons_succ]
          refine takeH (i := 7) (v := ?vv8) rfl (by kernel_rfl) (by kernel_rfl) (by kernel_rfl) (fun _ _ _ h => h) (Or.inl ⟨by rfl, ?hy8⟩) (by assumption) ?rest8
          case hy8 => (intro w hSw; (try dsimp only at hSw); go_simp; try with_reducible rfl)
          try simp only [Act.put, List.setIfInBounds_toArray, List.set_cons_zero, List.set_cons_succ]
          refine takeH (i := 8) (v := ?vv9) rfl (by kernel_rfl) (by kernel_rfl) (by kernel_rfl) (fun _ _ _ h => h) (Or.inl ⟨by rfl, ?hy9⟩) (by assumption) ?rest9
          case hy9 => (intro w hSw; (try dsimp only at hSw); go_simp; try with_reducible rfl)
          try simp only [Act.put, List.setIfInBounds_toArray, List.set_cons_zero, List.set_cons_succ]
          refine takeH (i := 9) (v := ?vv10) rfl (by kernel_rfl) (by kernel_rfl) (by kernel_rfl) (fun _ _ _ h => h) (Or.inl ⟨by rfl, ?hy10⟩) (by assumption) ?rest10
          case hy10 => (intro w hSw; (try dsimp only at hSw); go_simp; try with_reducible rfl)
          try simp only [Act.put, List.setIfInBounds_toArray, List.set_cons_zero, List.set_cons_succ]
          refine takeH (i := 10) (v := ?vv11) rfl (by kernel_rfl) (by kernel_rfl) (by kernel_rfl) (fun _ _ _ h => h) (Or.inl ⟨by rfl, ?hy11⟩) (by assumption) ?rest11
          case hy11 => (intro w hSw; (try dsimp only at hSw); go_simp; try with_reducible rfl)
          try simp only [Act.put, List.setIfInBounds_toArray, List.set_cons_zero, List.set_cons_succ]
          refine takeH (i := 11) (v := ?vv12) rfl (by kernel_rfl) (by kernel_rfl) (by kernel_rfl) (fun _ _ _ h => h) (Or.inl ⟨by rfl, ?hy12⟩) (by assumption) ?rest12
          case hy12 => (intro w hSw; (try dsimp only at hSw); go_simp; try with_reducible rfl)
          try simp only [Act.put, List.setIfInBounds_toArray, List.set_cons_zero, List.set_cons_succ]
          refine doneH (i := 12) rfl (by kernel_rfl) (by rfl) (fun K hK => ?_)
          have HK : Hid _ := hK
          clear hK
          go_simp
          obtain ⟨VW, hV⟩ : ∃ VW, (wq.alloc (.cells #[I64 0, I64 0, I64 0] 70)).drew = VW := ⟨_, rfl⟩
          have hVo : VW.heap[wq.heap.size]? = some (.cells #[I64 0, I64 0, I64 0] 70 (0, 0)) := by rw [← hV]; exact heap_alloc_new wq _
          have hBV : Below wq.heap.size wq VW := by rw [← hV]; exact ((Below.refl _ wq).alloc (Nat.le_refl _) _).drew
          have hVz : VW.heap.size = wq.heap.size + 1 := by rw [← hV]; simp
          rw [hV]
          clear hV hHeld
          obtain ⟨nx, hnx⟩ : ∃ n, wq.heap.size = n := ⟨_, rfl⟩
          rw [hnx] at hVo hVz ⊢
          have e1 : VW.cell? ⟨g1, o1 + i * 3, none⟩ = some (I64 s) ∧ VW.cell? ⟨g1, o1 + i * 3 + 1, none⟩ = some (I64 t) := ⟨(hBV.cell (p := ⟨g1, o1 + i * 3, none⟩) (World.block_lt_of_cell? _ _ d0)).trans d0, (hBV.cell (p := ⟨g1, o1 + i * 3 + 1, none⟩) (World.block_lt_of_cell? _ _ d1)).trans d1⟩
          have hne : ∀ o o' : Nat, (⟨nx, o, none⟩ : Addr) ≠ ⟨g1, o', none⟩ := by intro o o' he; have := World.block_lt_of_cell? _ _ d0; simp at he this; omega
          refine HK.out _ _ e1 (fun hHeld => ?_)
          clear HK K
          try simp only [Act.put, List.setIfInBounds_toArray, List.set_cons_zero, List.set_cons_succ]
          obtain ⟨⟨z0, z1, z2⟩, fz⟩ := three_cells hVo
          refine doneH (i := 13) rfl (by kernel_rfl) (by rfl) (fun K hK => ?_)
          have HK : Hid _ := hK
          clear hK
          go_simp
          have h3 := three_heap hVo (I64 u) (I64 s) (I64 t)
          have hB3 : Below wq.heap.size wq _ := three_below hBV (n := nx) (by omega) (I64 u) (I64 s) (I64 t)
          have hz3 : (((VW.setCell ⟨nx, 0, none⟩ (I64 u)).setCell ⟨nx, 1, none⟩ (I64 s)).setCell ⟨nx, 2, none⟩ (I64 t)).heap.size = nx + 1 := by simp; exact hVz
          generalize ((VW.setCell ⟨nx, 0, none⟩ (I64 u)).setCell ⟨nx, 1, none⟩ (I64 s)).setCell ⟨nx, 2, none⟩ (I64 t) = wx at h3 hB3 hz3 ⊢
          clear hHeld e1 z0 z1 z2 fz hVo hBV hVz hne
          have e2 : wx.cell? ⟨g1, o1 + i * 3, none⟩ = some (I64 s) ∧ wx.cell? ⟨g1, o1 + i * 3 + 1, none⟩ = some (I64 t) := ⟨(hB3.cell (p := ⟨g1, o1 + i * 3, none⟩) (World.block_lt_of_cell? _ _ d0)).trans d0, (hB3.cell (p := ⟨g1, o1 + i * 3 + 1, none⟩) (World.block_lt_of_cell? _ _ d1)).trans d1⟩
          refine HK.out _ _ e2 (fun hHeld => ?_)
          clear HK K
          try simp only [Act.put, List.setIfInBounds_toArray, List.set_cons_zero, List.set_cons_succ]
          clear hHeld e2
          refine wpAnyH_done (by kernel_rfl) ?_ _
          have hBx : Below w1.heap.size w1 wx := hB.trans (hB3.mono hB.size)
          have f0 := (hB3.cell (p := ⟨g2, o2 + j * 3, none⟩) (World.block_lt_of_cell? _ _ k0)).trans k0
          have f1 := (hB3.cell (p := ⟨g2, o2 + j * 3 + 1, none⟩) (World.block_lt_of_cell? _ _ k1)).trans k1
          have hxo := h3
          have HXZ : Hid (wx.heap.size = nx + 1) := hz3
          have hB0 := hB.size
          rw [hnx] at hB0
          clear h3 hz3 hB3 d0 d1 k0 k1
          go_wp2_with fail
          refine wp_region_held_drew (S := fun w' => w'.cell? ⟨g2, o2 + j * 3, none⟩ = some (I64 s') ∧ w'.cell? ⟨g2, o2 + j * 3 + 1, none⟩ = some (I64 t')) (by kernel_rfl) ⟨f0, f1⟩ (fun hHeld => ?_)
          refine takeH (i := 0) (v := ?vv13) rfl (by kernel_rfl) (by kernel_rfl) (by kernel_rfl) (fun _ _ _ h => h) (Or.inl ⟨by rfl, ?hy13⟩) (by assumption) ?rest13
          case hy13 => (intro w hSw; (try dsimp only at hSw); go_simp; try with_reducible rfl)
          try simp only [Act.put, List.setIfInBounds_toArray, List.set_cons_zero, List.set_cons_succ]
          refine takeH (i := 1) (v := ?vv14) rfl (by kernel_rfl) (by kernel_rfl) (by kernel_rfl) (fun _ _ _ h => h) (Or.inl ⟨by rfl, ?hy14⟩) (by assumption) ?rest14
          case hy14 => (intro w hSw; (try dsimp only at hSw); go_simp; try with_reducible rfl)
          try simp only [Act.put, List.setIfInBounds_toArray, List.set_cons_zero, List.set_cons_succ]
          refine takeH (i := 2) (v := ?vv15) rfl (by kernel_rfl) (by kernel_rfl) (by kernel_rfl) (fun _ _ _ h => h) (Or.inl ⟨by rfl, ?hy15⟩) (by assumption) ?rest15
          case hy15 => (intro w hSw; (try dsimp only at hSw); go_simp; try with_reducible rfl)
          try simp only [Act.put, List.setIfInBounds_toArray, List.set_cons_zero, List.set_cons_succ]
          refine takeH (i := 3) (v := ?vv16) rfl (by kernel_rfl) (by kernel_rfl) (by kernel_rfl) (fun _ _ _ h => h) (Or.inl ⟨by rfl, ?hy16⟩) (by assumption) ?rest16
          case hy16 => (intro w hSw; (try dsimp only at hSw); go_simp; try with_reducible rfl)
          try simp only [Act.put, List.setIfInBounds_toArray, List.set_cons_zero, List.set_cons_succ]
          refine takeH (i := 4) (v := ?vv17) rfl (by kernel_rfl) (by kernel_rfl) (by kernel_rfl) (fun _ _ _ h => h) (Or.inl ⟨by rfl, ?hy17⟩) (by assumption) ?rest17
          case hy17 => (intro w hSw; (try dsimp only at hSw); go_simp; try with_reducible rfl)
          try simp only [Act.put, List.setIfInBounds_toArray, List.set_cons_zero, List.set_cons_succ]
          refine takeH (i := 5) (v := ?vv18) rfl (by kernel_rfl) (by kernel_rfl) (by kernel_rfl) (fun _ _ _ h => h) (Or.inl ⟨by rfl, ?hy18⟩) (by assumption) ?rest18
          case hy18 => (intro w hSw; (try dsimp only at hSw); go_simp; try with_reducible rfl)
          try simp only [Act.put, List.setIfInBounds_toArray, List.set_cons_zero, List.set_cons_succ]
          refine takeH (i := 6) (v := ?vv19) rfl (by kernel_rfl) (by kernel_rfl) (by kernel_rfl) (fun _ _ _ h => h) (Or.inl ⟨by rfl, ?hy19⟩) (by assumption) ?rest19
          case hy19 => (intro w hSw; (try dsimp only at hSw); go_simp; try with_reducible rfl)
          try simp only [Act.put, List.setIfInBounds_toArray, List.set_cons_zero, List.set_cons_succ]
          refine takeH (i := 7) (v := ?vv20) rfl (by kernel_rfl) (by kernel_rfl) (by kernel_rfl) (fun _ _ _ h => h) (Or.inl ⟨by rfl, ?hy20⟩) (by assumption) ?rest20
          case hy20 => (intro w hSw; (try dsimp only at hSw); go_simp; try with_reducible rfl)
          try simp only [Act.put, List.setIfInBounds_toArray, List.set_cons_zero, List.set_cons_succ]
          refine takeH (i := 8) (v := ?vv21) rfl (by kernel_rfl) (by kernel_rfl) (by kernel_rfl) (fun _ _ _ h => h) (Or.inl ⟨by rfl, ?hy21⟩) (by assumption) ?rest21
          case hy21 => (intro w hSw; (try dsimp only at hSw); go_simp; try with_reducible rfl)
          try simp only [Act.put, List.setIfInBounds_toArray, List.set_cons_zero, List.set_cons_succ]
          refine takeH (i := 9) (v := ?vv22) rfl (by kernel_rfl) (by kernel_rfl) (by kernel_rfl) (fun _ _ _ h => h) (Or.inl ⟨by rfl, ?hy22⟩) (by assumption) ?rest22
          case hy22 => (intro w hSw; (try dsimp only at hSw); go_simp; try with_reducible rfl)
          try simp only [Act.put, List.setIfInBounds_toArray, List.set_cons_zero, List.set_cons_succ]
          refine takeH (i := 10) (v := ?vv23) rfl (by kernel_rfl) (by kernel_rfl) (by kernel_rfl) (fun _ _ _ h => h) (Or.inl ⟨by rfl, ?hy23⟩) (by assumption) ?rest23
          case hy23 => (intro w hSw; (try dsimp only at hSw); go_simp; try with_reducible rfl)
          try simp only [Act.put, List.setIfInBounds_toArray, List.set_cons_zero, List.set_cons_succ]
          refine takeH (i := 11) (v := ?vv24) rfl (by kernel_rfl) (by kernel_rfl) (by kernel_rfl) (fun _ _ _ h => h) (Or.inl ⟨by rfl, ?hy24⟩) (by assumption) ?rest24
          case hy24 => (intro w hSw; (try dsimp only at hSw); go_simp; try with_reducible rfl)
          try simp only [Act.put, List.setIfInBounds_toArray, List.set_cons_zero, List.set_cons_succ]
          refine doneH (i := 12) rfl (by kernel_rfl) (by rfl) (fun K hK => ?_)
          have HK : Hid _ := hK
          clear hK
          go_simp
          obtain ⟨VW, hV⟩ : ∃ VW, (wx.alloc (.cells #[I64 0, I64 0, I64 0] 70)).drew = VW := ⟨_, rfl⟩
          have hVo : VW.heap[wx.heap.size]? = some (.cells #[I64 0, I64 0, I64 0] 70 (0, 0)) := by rw [← hV]; exact heap_alloc_new wx _
          have hBV : Below wx.heap.size wx VW := by rw [← hV]; exact ((Below.refl _ wx).alloc (Nat.le_refl _) _).drew
          have hVz : VW.heap.size = wx.heap.size + 1 := by rw [← hV]; simp
          rw [hV]
          clear hV hHeld
          obtain ⟨ny, hny⟩ : ∃ n, wx.heap.size = n := ⟨_, rfl⟩
          rw [hny] at hVo hVz ⊢
          have e1 : VW.cell? ⟨g2, o2 + j * 3, none⟩ = some (I64 s') ∧ VW.cell? ⟨g2, o2 + j * 3 + 1, none⟩ = some (I64 t') := ⟨(hBV.cell (p := ⟨g2, o2 + j * 3, none⟩) (World.block_lt_of_cell? _ _ f0)).trans f0, (hBV.cell (p := ⟨g2, o2 + j * 3 + 1, none⟩) (World.block_lt_of_cell? _ _ f1)).trans f1⟩
          have hne : ∀ o o' : Nat, (⟨ny, o, none⟩ : Addr) ≠ ⟨g2, o', none⟩ := by intro o o' he; have := World.block_lt_of_cell? _ _ f0; simp at he this; omega
          refine HK.out _ _ e1 (fun hHeld => ?_)
          clear HK K
          try simp only [Act.put, List.setIfInBounds_toArray, List.set_cons_zero, List.set_cons_succ]
          obtain ⟨⟨z0, z1, z2⟩, fz⟩ := three_cells hVo
          refine doneH (i := 13) rfl (by kernel_rfl) (by rfl) (fun K hK => ?_)
          have HK : Hid _ := hK
          clear hK
          go_simp
          have h3 := three_heap hVo (I64 u) (I64 s') (I64 t')
          have hB3 : Below wx.heap.size wx _ := three_below hBV (n := ny) (by omega) (I64 u) (I64 s') (I64 t')
          have hz3 : (((VW.setCell ⟨ny, 0, none⟩ (I64 u)).setCell ⟨ny, 1, none⟩ (I64 s')).setCell ⟨ny, 2, none⟩ (I64 t')).heap.size = ny + 1 := by simp; exact hVz
          generalize ((VW.setCell ⟨ny, 0, none⟩ (I64 u)).setCell ⟨ny, 1, none⟩ (I64 s')).setCell ⟨ny, 2, none⟩ (I64 t') = wy at h3 hB3 hz3 ⊢
          clear hHeld e1 z0 z1 z2 fz hVo hBV hVz hne
          have e2 : wy.cell? ⟨g2, o2 + j * 3, none⟩ = some (I64 s') ∧ wy.cell? ⟨g2, o2 + j * 3 + 1, none⟩ = some (I64 t') := ⟨(hB3.cell (p := ⟨g2, o2 + j * 3, none⟩) (World.block_lt_of_cell? _ _ f0)).trans f0, (hB3.cell (p := ⟨g2, o2 + j * 3 + 1, none⟩) (World.block_lt_of_cell? _ _ f1)).trans f1⟩
          refine HK.out _ _ e2 (fun hHeld => ?_)
          clear HK K
          try simp only [Act.put, List.setIfInBounds_toArray, List.set_cons_zero, List.set_cons_succ]
          clear hHeld e2
          refine wpAnyH_done (by kernel_rfl) ?_ _
          have hBy : Below w1.heap.size w1 wy := hBx.trans (hB3.mono hBx.size)
          have hxz := HXZ.out
          have hxo2 := (hB3.block nx (by omega)).trans hxo
          obtain ⟨⟨z0, z1, z2⟩, fz⟩ := three_cells hxo2
          obtain ⟨⟨v0, v1, v2⟩, fv⟩ := three_cells h3
          have hkd := HKD wy (hA.below hBy hlb hlg)
          obtain ⟨kd, hkd'⟩ : ∃ k, kindI ps ⟨u, s, t⟩ ⟨u, s', t'⟩ = k := ⟨_, rfl⟩
          rw [hkd'] at hkd hkp HQ2
          have HKK : Hid (kindI ps ⟨u, s, t⟩ ⟨u, s', t'⟩ = kd) := hkd'
          clear hkd' HKD f0 f1
          unfold Vt.val at hkd
          dsimp only at hkd
          go_wp2_with fail
          refine hkd.mono ?_
          rintro e W3 ⟨rfl, hB5⟩
          have hB6 : Below w1.heap.size w1 W3 := hBy.trans (hB5.mono hBy.size)
          have hx3 := (hB5.block nx (by omega)).trans hxo2
          have hy3 := (hB5.block ny (by omega)).trans h3
          clear hkd z0 z1 z2 fz v0 v1 v2 fv
          by_cases hkz : kd = 0
          · have q : ¬ (0 : Int) < kd := by omega
            have HF2 : Hid (innerV ps ⟨s, t, V⟩ M u = innerV ps ⟨s, t, V⟩ (M.drop (j + 1)) u) := by show _ = _; rw [HQ2.out, if_neg (by omega)]
            clear HQ2 hx3 hy3
            go_wp2
            go_roundw
            case rel => exact ⟨j + 1, by omega, by go_num, hB6, HF2⟩
            case measure => simp [intOf]; omega
          · have q : (0 : Int) < kd := by omega
            have HR : Hid (judgeV ps L M u = some ⟨u, kd, ⟨u, s, t⟩, ⟨u, s', t'⟩⟩) := by
              show _ = _
              have e : innerV ps ⟨s, t, V⟩ M u = some ⟨u, s', t'⟩ := by rw [HQ2.out, if_pos hkz]
              rw [HP.out, e]
              simp [HKK.out]
            clear HQ2 HP hkz
            obtain ⟨⟨z0, z1, z2⟩, _⟩ := three_cells hx3
            obtain ⟨⟨v0, v1, v2⟩, _⟩ := three_cells hy3
            have hrw : W3.heap[w.heap.size]? = some (.cells #[I64 0, I64 0, I64 0, I64 0, I64 0, I64 0, I64 0, I64 0] 73 (0, 0)) := (hB6.block _ (by omega)).trans hr1
            obtain ⟨r0, r1, r2, r3, r4, r5, r6, r7⟩ := eight_cells hrw
            have fz : ∀ o, W3.frozen? ⟨w.heap.size, o, none⟩ = false := fun o => frozen_of_heap hrw o
            have HRW : Hid _ := hrw
            clear hrw hr1 hx3 hy3 hxo hxo2 h3
            go_wp2
            have h8 := put8_heap HRW.out (I64 u) (I64 kd) (I64 u) (I64 s) (I64 t) (I64 u) (I64 s') (I64 t')
            obtain ⟨y0, y1, y2, y3, y4, y5, y6, y7⟩ := eight_cells h8
            unfold put8 at y0 y1 y2 y3 y4 y5 y6 y7
            refine ⟨rfl, guV (judgeV ps L M u), ?_, rfl, put8_below (hBa.trans (hB6.mono hBa.size)) (Nat.le_refl _) _ _ _ _ _ _ _ _⟩
            rw [HR.out]
            simp only [results, Try.f51]
            simp [go_sem, y0, y1, y2, y3, y4, y5, y6, y7]
        · have HP' : Hid (judgeV ps L M u = judgeV ps (L.drop (i + 1)) M u) := by
            have hF' := hF.out
            rw [List.drop_eq_nil_of_le (by rw [HMl.out]; omega), innerV_nil] at hF'
            show _ = _
            rw [HP.out, hF']
          clear HP hF
          go_wp2
          go_roundw
          case rel => exact ⟨i + 1, by omega, by go_num, hB, HP'⟩
          case measure => simp [intOf]; omega
    · have hrw : wr.heap[w.heap.size]? = some (.cells #[I64 0, I64 0, I64 0, I64 0, I64 0, I64 0, I64 0, I64 0] 73 (0, 0)) := (hB.block _ (by omega)).trans hr1
      obtain ⟨z0, z1, z2, z3, z4, z5, z6, z7⟩ := eight_cells hrw
      have fz : ∀ o, wr.frozen? ⟨w.heap.size, o, none⟩ = false := fun o => frozen_of_heap hrw o
      have HRW : Hid _ := hrw
      clear hrw hr1
      go_wp2
      have HN : Hid (judgeV ps L M u = none) := by
        show _ = _
        rw [hP.out, List.drop_eq_nil_of_le (by rw [HLl.out]; omega), judgeV_nil]
      have h8 := put8_heap HRW.out (I64 0) (I64 0) (I64 0) (I64 0) (I64 0) (I64 0) (I64 0) (I64 0)
      obtain ⟨y0, y1, y2, y3, y4, y5, y6, y7⟩ := eight_cells h8
      unfold put8 at y0 y1 y2 y3 y4 y5 y6 y7
      refine ⟨rfl, guV (judgeV ps L M u), ?_, rfl, put8_below (hBa.trans (hB.mono hBa.size)) (Nat.le_refl _) _ _ _ _ _ _ _ _⟩
      rw [HN.out]
      simp only [results, Try.f51]
      simp [go_sem, y0, y1, y2, y3, y4, y5, y6, y7]
end Go.Proofs.Ytgebcnnenhgkcaa
