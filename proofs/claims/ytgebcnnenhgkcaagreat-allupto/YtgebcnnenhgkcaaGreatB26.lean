/- The document's own answer: has, Tree, against. -/
import Derived.Test.YtgebcnnenhgkcaaGreatB25
import Derived.Test.YtgebcnnenhgkcaaGreatB13
import Derived.Test.YtgebcnnenhgkcaaGreatB23
import Derived.Test.YtgebcnnenhgkcaaGreatB16
namespace Go.Proofs.YtgebcnnenhgkcaaGreat
open Go.RowKit Go.Shelf

theorem rHas_at (pl : Option Addr) (cl : Nat) (l : List Int) (v : Int) (w : World) (hr : IntsAt w pl l) (hm : l.length ≤ maxLen) :
    Calls Tryz.prog 156 #[.slice pl l.length cl, .int .i64 v] w fun e w' => e = .returned (.bool (hasV l v)) ∧ w' = w := by
  have hml : l.length ≤ 9223372036854775807 := by unfold maxLen at hm; omega
  clear hm
  go_enter Tryz.func156, Tryz.ntmps156
  go_wp2
  go_loop [5] (fun i => ∃ k : Nat, k ≤ l.length ∧ i = .int .i64 k ∧ Hid (hasV (l.take k) v = false)) (fun i => l.length - (intOf i).toNat)
  case atStart => exact ⟨0, by omega, rfl, rfl⟩
  case round =>
    obtain ⟨k, hk, rfl, HV⟩ := hrel
    by_cases hlt : k < l.length
    · have hlt' : (k : Int) < (l.length : Int) := by omega
      rcases hr with rfl | ⟨gl, ol, rfl, hcl⟩
      · simp at hlt
      obtain ⟨y, hy⟩ : ∃ y, l[k]? = some y := ⟨_, List.getElem?_eq_getElem hlt⟩
      have hc : w.cell? ⟨gl, ol + k, none⟩ = some (I64 y) := by have := hcl k hlt; rw [hy] at this; exact this
      have HY : Hid (l[k]? = some y) := hy
      clear hcl hy
      by_cases e : y = v
      · have q : (y == v) = true := by simpa using e
        have HB : Hid (hasV l v = true) := by show _ = _; rw [hasV_iff, ← e]; exact List.mem_of_getElem? HY.out
        clear e
        go_wp2
        go_ret
        exact ⟨by rw [HB.out]; rfl, rfl⟩
      · have q : (y == v) = false := by simpa using e
        have HB : Hid (hasV (l.take (k + 1)) v = false) := by
          show _ = _
          rw [List.take_add_one, HY.out]
          have h1 := HV.out
          unfold hasV at h1 ⊢
          rw [List.any_append, h1]
          simp [e]
        clear e
        go_wp2
        go_round
        case rel => exact ⟨k + 1, by omega, by go_num, HB⟩
        case measure => simp [intOf]; omega
    · have HB : Hid (hasV l v = false) := by have := HV.out; rw [List.take_of_length_le (by omega)] at this; exact this
      clear HV
      go_wp2
      go_ret
      exact ⟨by rw [HB.out]; rfl, rfl⟩

set_option maxRecDepth 100000 in
set_option maxHeartbeats 2000000 in
theorem rTree_at (p : Option Addr) (c : Nat) (ps : List Int) (w : World) (hx : IntsAt w p ps) (hl : ps.length ≤ maxLen) :
    Calls Tryz.prog 137 #[.slice p ps.length c] w fun e w' => e = .returned (.bool (treeB ps)) ∧ w' = w := by
  have hml : ps.length ≤ 9223372036854775807 := by unfold maxLen at hl; omega
  clear hl
  by_cases hn1 : ps.length < 1
  · have hn1' : (ps.length : Int) < 1 := by omega
    have HB : Hid (treeB ps = false) := by show _ = _; unfold treeB; simp; omega
    go_enter Tryz.func137, Tryz.ntmps137
    go_wp2
    go_ret
    exact ⟨by rw [HB.out]; rfl, rfl⟩
  have hn1' : ¬ (ps.length : Int) < 1 := by omega
  by_cases hn2 : ps.length > 40
  · have hn2' : (ps.length : Int) > 40 := by omega
    have HB : Hid (treeB ps = false) := by show _ = _; unfold treeB; simp; omega
    go_enter Tryz.func137, Tryz.ntmps137
    go_wp2
    go_ret
    exact ⟨by rw [HB.out]; rfl, rfl⟩
  have hn2' : ¬ (ps.length : Int) > 40 := by omega
  rcases hx with rfl | ⟨g, o, rfl, hcs⟩
  · simp at hn1
  have h0p : (0 : Int) < (ps.length : Int) := by omega
  have h0n : 0 < ps.length := by omega
  obtain ⟨y, hy⟩ : ∃ y, ps[0]?.getD 0 = y := ⟨_, rfl⟩
  have hc0 : w.cell? ⟨g, o, none⟩ = some (I64 y) := by have := hcs 0 h0n; rw [hy] at this; simpa using this
  have HT : Hid (treeB ps = ((y == 0) && parsB ps ps.length)) := by
    show _ = _
    unfold treeB
    have q1 : decide (1 ≤ ps.length) = true := by simp; omega
    have q2 : decide (ps.length ≤ 40) = true := by simp; omega
    rw [q1, q2, hy]; rfl
  have HCS : Hid (∀ j, j < ps.length → w.cell? ⟨g, o + j, none⟩ = some (I64 (ps[j]?.getD 0))) := hcs
  clear hcs hy
  by_cases hy0 : y = 0
  · have q : (y != 0) = false := by simpa using hy0
    have HT' : Hid (treeB ps = parsB ps ps.length) := by show _ = _; rw [HT.out, hy0]; simp
    clear HT hy0
    go_enter Tryz.func137, Tryz.ntmps137
    go_wp2_with fail
    go_loop [3] (fun i => ∃ k : Nat, 1 ≤ k ∧ k ≤ ps.length ∧ i = .int .i64 k ∧ Hid (parsB ps k = true)) (fun i => ps.length - (intOf i).toNat)
    case atStart => exact ⟨1, by omega, by omega, rfl, rfl⟩
    case round =>
      obtain ⟨k, hk1, hk, rfl, HP⟩ := hrel
      by_cases hlt : k < ps.length
      · have hlt' : (k : Int) < (ps.length : Int) := by omega
        obtain ⟨z, hz⟩ : ∃ z, ps[k]?.getD 0 = z := ⟨_, rfl⟩
        have hcz : w.cell? ⟨g, o + k, none⟩ = some (I64 z) := by rw [← hz]; exact HCS.out k hlt
        have HS : Hid (parsB ps (k + 1) = (decide (0 ≤ z) && decide (z < (k : Int)))) := by
          show _ = _
          simp only [parsB]
          rw [HP.out, Bool.true_and]
          unfold parB
          rw [hz]
          have : decide (k = 0) = false := by simp; omega
          rw [this, Bool.false_or]
        have HF : Hid (parsB ps (k + 1) = false → treeB ps = false) := fun hf => by rw [HT'.out]; exact parsB_up hf (by omega)
        clear hz
        by_cases c1 : z < 0
        · have HB : Hid (treeB ps = false) := HF.out (by rw [HS.out]; simp; omega)
          clear HS HF
          go_wp2
          go_ret
          exact ⟨by rw [HB.out]; rfl, rfl⟩
        · by_cases c2 : z ≥ (k : Int)
          · have HB : Hid (treeB ps = false) := HF.out (by rw [HS.out]; simp; omega)
            clear HS HF
            go_wp2
            go_ret
            exact ⟨by rw [HB.out]; rfl, rfl⟩
          · have HB : Hid (parsB ps (k + 1) = true) := by show _ = _; rw [HS.out]; simp; omega
            clear HS HF
            go_wp2
            go_round
            case rel => exact ⟨k + 1, by omega, by omega, by go_num, HB⟩
            case measure => simp [intOf]; omega
      · have hkk : k = ps.length := by omega
        have HB : Hid (treeB ps = true) := by show _ = _; rw [HT'.out, ← hkk]; exact HP.out
        clear hkk
        go_wp2
        go_ret
        exact ⟨by rw [HB.out]; rfl, rfl⟩
  · have q : (y != 0) = true := by simpa using hy0
    have HB : Hid (treeB ps = false) := by show _ = _; rw [HT.out]; simp [hy0]
    clear HT hy0
    go_enter Tryz.func137, Tryz.ntmps137
    go_wp2
    go_ret
    exact ⟨by rw [HB.out]; rfl, rfl⟩

theorem kindI_nn (ps : List Int) (x y : Vt) : 0 ≤ kindI ps x y := by
  unfold kindI
  split
  · omega
  · split
    · omega
    · split <;> omega
/-- The first vote of a voter by links that stands against one of his. -/
def innerV (ps : List Int) (l : Lk) (M : List Lk) (v : Int) : Option Vt := if hasV l.vs v = true then (ofL M v).find? (fun y => decide (kindI ps ⟨v, l.s, l.t⟩ y ≠ 0)) else none
theorem ofL_cons (l : Lk) (r : List Lk) (v : Int) : ofL (l :: r) v = if hasV l.vs v = true then ⟨v, l.s, l.t⟩ :: ofL r v else ofL r v := by
  unfold ofL
  by_cases e : hasV l.vs v = true <;> simp [e]
theorem drop_of {α : Type} {L : List α} {i : Nat} {x : α} (h : L[i]? = some x) : L.drop i = x :: L.drop (i + 1) := by
  obtain ⟨hlt, rfl⟩ := List.getElem?_eq_some_iff.1 h
  exact List.drop_eq_getElem_cons hlt
theorem judgeV_drop {ps : List Int} {L M : List Lk} {i : Nat} {l : Lk} (v : Int) (h : L[i]? = some l) : judgeV ps (L.drop i) M v = match innerV ps l M v with
    | some y => some ⟨v, kindI ps ⟨v, l.s, l.t⟩ y, ⟨v, l.s, l.t⟩, y⟩
    | none => judgeV ps (L.drop (i + 1)) M v := by
  rw [drop_of h]
  unfold judgeV innerV
  rw [ofL_cons]
  by_cases e : hasV l.vs v = true
  · rw [if_pos e, if_pos e]
    rw [show ∀ (K : Vt → Vt → Int) (x : Vt) (r o : List Vt), firstF K (x :: r) o = (match o.find? (fun y => decide (K x y ≠ 0)) with | some y => some (K x y, x, y) | none => firstF K r o) from fun _ _ _ _ => rfl]
    cases (ofL M v).find? (fun y => decide (kindI ps ⟨v, l.s, l.t⟩ y ≠ 0)) <;> rfl
  · rw [if_neg e, if_neg e]
theorem innerV_drop {ps : List Int} {l : Lk} {M : List Lk} {j : Nat} {m : Lk} (v : Int) (h : M[j]? = some m) : innerV ps l (M.drop j) v = if hasV l.vs v = true ∧ hasV m.vs v = true ∧ kindI ps ⟨v, l.s, l.t⟩ ⟨v, m.s, m.t⟩ ≠ 0 then some ⟨v, m.s, m.t⟩ else innerV ps l (M.drop (j + 1)) v := by
  rw [drop_of h]
  unfold innerV
  rw [ofL_cons]
  by_cases e : hasV l.vs v = true
  · rw [if_pos e, if_pos e]
    by_cases e2 : hasV m.vs v = true
    · rw [if_pos e2]
      by_cases e3 : kindI ps ⟨v, l.s, l.t⟩ ⟨v, m.s, m.t⟩ ≠ 0
      · rw [if_pos ⟨e, e2, e3⟩, List.find?_cons_of_pos (by simpa using e3)]
      · rw [if_neg (fun h => e3 h.2.2), List.find?_cons_of_neg (by simpa using e3)]
    · rw [if_neg e2, if_neg (fun h => e2 h.2.1)]
  · rw [if_neg e, if_neg e, if_neg (fun h => e h.1)]
theorem innerV_nil (ps : List Int) (l : Lk) (v : Int) : innerV ps l [] v = none := by
  unfold innerV ofL
  split <;> rfl
theorem judgeV_nil (ps : List Int) (M : List Lk) (v : Int) : judgeV ps [] M v = none := rfl

/-- Three stores into a block. -/
theorem three_heap {W : World} {n : Nat} {c0 c1 c2 : Value} {t : TypeId} (h : W.heap[n]? = some (.cells #[c0, c1, c2] t (0, 0))) (a b c : Value) : (((W.setCell ⟨n, 0, none⟩ a).setCell ⟨n, 1, none⟩ b).setCell ⟨n, 2, none⟩ c).heap[n]? = some (.cells #[a, b, c] t (0, 0)) := by
  have h0 : (W.setCell ⟨n, 0, none⟩ a).heap[n]? = some (.cells #[a, c1, c2] t (0, 0)) := heap_setCell_same _ n 0 _ _ _ h
  have h1 : ((W.setCell ⟨n, 0, none⟩ a).setCell ⟨n, 1, none⟩ b).heap[n]? = some (.cells #[a, b, c2] t (0, 0)) := heap_setCell_same _ n 1 _ _ _ h0
  exact heap_setCell_same _ n 2 _ _ _ h1
theorem three_below {w W : World} {B n : Nat} (h : Below B w W) (hn : B ≤ n) (a b c : Value) : Below B w (((W.setCell ⟨n, 0, none⟩ a).setCell ⟨n, 1, none⟩ b).setCell ⟨n, 2, none⟩ c) :=
  ((h.setCell (p := ⟨n, 0, none⟩) hn _).setCell (p := ⟨n, 1, none⟩) hn _).setCell (p := ⟨n, 2, none⟩) hn _
theorem three_cells {W : World} {n : Nat} {c0 c1 c2 : Value} {t : TypeId} (h : W.heap[n]? = some (.cells #[c0, c1, c2] t (0, 0))) : (W.cell? ⟨n, 0, none⟩ = some c0 ∧ W.cell? ⟨n, 1, none⟩ = some c1 ∧ W.cell? ⟨n, 2, none⟩ = some c2) ∧ ∀ o, W.frozen? ⟨n, o, none⟩ = false :=
  ⟨⟨by rw [cell_of_heap h]; rfl, by rw [cell_of_heap h]; rfl, by rw [cell_of_heap h]; rfl⟩, fun o => frozen_of_heap h o⟩

set_option maxRecDepth 100000 in
set_option maxHeartbeats 8000000 in
theorem against_at (b gw ow cw gp op cp : Nat) (ws ps : List Int) (X Y : List LkV) (p1 p2 : Option Addr) (c1 c2 : Nat) (u : Int) (w : World) (h : RIn w b gw ow cw gp op cp ws ps) (hT : Tree ps) (h1 : LkAt w p1 X) (h2 : LkAt w p2 Y) (hX : X.length ≤ 40) (hY : Y.length ≤ 40)
    (hbX : ∀ x ∈ X, OkB ps ⟨u, x.1.s, x.1.t⟩) (hbY : ∀ x ∈ Y, OkB ps ⟨u, x.1.s, x.1.t⟩) :
    Calls Tryz.prog 139 #[.pointer (some ⟨b, 0, none⟩), .int .i64 u, .slice p1 X.length c1, .slice p2 Y.length c2] w fun e w' => e = .returned (guV (judgeV ps (X.map (fun x => x.1)) (Y.map (fun x => x.1)) u)) ∧ Below w.heap.size w w' := by
  have hBa : Below w.heap.size w (w.alloc (.cells #[I64 0, I64 0, I64 0, I64 0, I64 0, I64 0, I64 0, I64 0] 84)) := (Below.refl _ w).alloc (Nat.le_refl _) _
  obtain ⟨L, hL⟩ : ∃ L, X.map (fun x => x.1) = L := ⟨_, rfl⟩
  obtain ⟨M, hM⟩ : ∃ M, Y.map (fun x => x.1) = M := ⟨_, rfl⟩
  have HXL : Hid (∀ (i : Nat) (x : LkV), X[i]? = some x → L[i]? = some x.1) := fun i x hx => by rw [← hL]; simp [hx]
  have HYM : Hid (∀ (i : Nat) (x : LkV), Y[i]? = some x → M[i]? = some x.1) := fun i x hx => by rw [← hM]; simp [hx]
  have HLl : Hid (L.length = X.length) := by show _ = _; rw [← hL]; simp
  have HMl : Hid (M.length = Y.length) := by show _ = _; rw [← hM]; simp
  rw [hL, hM]
  clear hL hM
  go_enter Tryz.func139, Tryz.ntmps139
  go_wp2
  obtain ⟨w1, hw1⟩ : ∃ wa, w.alloc (.cells #[I64 0, I64 0, I64 0, I64 0, I64 0, I64 0, I64 0, I64 0] 84) = wa := ⟨_, rfl⟩
  have hr1 : w1.heap[w.heap.size]? = some (.cells #[I64 0, I64 0, I64 0, I64 0, I64 0, I64 0, I64 0, I64 0] 84 (0, 0)) := by rw [← hw1]; exact heap_alloc_new w _
  have hza : w1.heap.size = w.heap.size + 1 := by rw [← hw1]; simp
  rw [hw1] at hBa ⊢
  clear hw1
  have hA := (h.below hT hBa).tr
  have h11 := h1.below hBa
  have h21 := h2.below hBa
  have hlb := hA.lt_b
  have hlg := hA.lt_g hT.1
  clear h h1 h2
  have HBX : Hid _ := hbX
  have HBY : Hid _ := hbY
  clear hbX hbY
  go_loopw [9] (fun ii wr => ∃ i : Nat, i ≤ X.length ∧ ii = .int .i64 i ∧ Below w1.heap.size w1 wr ∧ Hid (judgeV ps L M u = judgeV ps (L.drop i) M u)) (fun ii _ => X.length - (intOf ii).toNat)
  case atStart => exact ⟨0, by omega, rfl, Below.refl _ _, by simp [Hid]⟩
  case round =>
    obtain ⟨i, hi, rfl, hB, hP⟩ := hrel
    by_cases hlt : i < X.length
    · have hlt' : (i : Int) < (X.length : Int) := by omega
      obtain ⟨x, hx⟩ : ∃ x, X[i]? = some x := ⟨_, List.getElem?_eq_getElem hlt⟩
      have hxm := List.mem_of_getElem? hx
      have HP : Hid _ := hP.out.trans (judgeV_drop (ps := ps) (M := M) u (HXL.out i x hx))
      have hxb := HBX.out x hxm
      rcases h11.at' with e | ⟨g1, o1, rfl, hc1⟩
      · rw [e] at hlt; simp at hlt
      obtain ⟨pv, cv, hxv, hiv, hvm⟩ := h11.vs x hxm
      obtain ⟨x0, x1, x2⟩ := hc1 i x hx
      rw [hxv] at x2
      have hg1 : g1 < w1.heap.size := World.block_lt_of_cell? w1 _ x0
      obtain ⟨⟨s, t, V⟩, vx⟩ := x
      dsimp only at HP hxb hxv hiv hvm x0 x1 x2
      clear hP hx hxm hc1 hxv
      go_wp2
      go_loopw [10] (fun jj wr2 => ∃ j : Nat, j ≤ Y.length ∧ jj = .int .i64 j ∧ Below w1.heap.size w1 wr2 ∧ Hid (innerV ps ⟨s, t, V⟩ M u = innerV ps ⟨s, t, V⟩ (M.drop j) u)) (fun jj _ => Y.length - (intOf jj).toNat)
      case atStart => exact ⟨0, by omega, rfl, hB, by simp [Hid]⟩
      case round =>
        clear hB
        obtain ⟨j, hj, rfl, hB, hF⟩ := hrel
        by_cases hjl : j < Y.length
        · have hjl' : (j : Int) < (Y.length : Int) := by omega
          obtain ⟨y, hy⟩ : ∃ y, Y[j]? = some y := ⟨_, List.getElem?_eq_getElem hjl⟩
          have hym := List.mem_of_getElem? hy
          have HQ : Hid _ := hF.out.trans (innerV_drop (ps := ps) (l := ⟨s, t, V⟩) u (HYM.out j y hy))
          have hyb := HBY.out y hym
          rcases h21.at' with e | ⟨g2, o2, rfl, hc2⟩
          · rw [e] at hjl; simp at hjl
          obtain ⟨pz, cz, hyv, hiz, hzm⟩ := h21.vs y hym
          obtain ⟨y0, y1, y2⟩ := hc2 j y hy
          rw [hyv] at y2
          have hg2 : g2 < w1.heap.size := World.block_lt_of_cell? w1 _ y0
          obtain ⟨⟨s', t', V'⟩, vy⟩ := y
          dsimp only at HQ hyb hyv hiz hzm y0 y1 y2
          have d0 := (hB.cell (p := ⟨g1, o1 + i * 3, none⟩) hg1).trans x0
          have d1 := (hB.cell (p := ⟨g1, o1 + i * 3 + 1, none⟩) hg1).trans x1
          have d2 := (hB.cell (p := ⟨g1, o1 + i * 3 + 2, none⟩) hg1).trans x2
          have k0 := (hB.cell (p := ⟨g2, o2 + j * 3, none⟩) hg2).trans y0
          have k1 := (hB.cell (p := ⟨g2, o2 + j * 3 + 1, none⟩) hg2).trans y1
          have k2 := (hB.cell (p := ⟨g2, o2 + j * 3 + 2, none⟩) hg2).trans y2
          have hhx := rHas_at pv cv V u wr (hiv.below' hB) hvm
          have hhy := rHas_at pz cz V' u wr (hiz.below' hB) hzm
          have HKD := fun W hA => rKind_at b gp op cp ps hT ⟨u, s, t⟩ ⟨u, s', t'⟩ rfl hxb hyb W hA
          have hkp := kindI_nn ps ⟨u, s, t⟩ ⟨u, s', t'⟩
          clear hF hy hym hc2 hyv x0 x1 x2 y0 y1 y2 h11 h21
          go_wp2_with fail
          refine hhx.mono ?_
          rintro e wq ⟨rfl, hwq⟩
          subst hwq
          go_wp2_with fail
          refine hhy.mono ?_
          rintro e wq ⟨rfl, hwq⟩
          subst hwq
          clear hhx hhy d2 k2
          cases hq1 : hasV V u
          · have HF2 : Hid (innerV ps ⟨s, t, V⟩ M u = innerV ps ⟨s, t, V⟩ (M.drop (j + 1)) u) := by show _ = _; rw [HQ.out, if_neg (by rw [hq1]; simp)]
            clear HQ hq1 hkp
            go_wp2
            go_roundw
            case rel => exact ⟨j + 1, by omega, by go_num, hB, HF2⟩
            case measure => simp [intOf]; omega
          cases hq2 : hasV V' u
          · have HF2 : Hid (innerV ps ⟨s, t, V⟩ M u = innerV ps ⟨s, t, V⟩ (M.drop (j + 1)) u) := by show _ = _; rw [HQ.out, if_neg (by rw [hq2]; simp)]
            clear HQ hq1 hq2 hkp
            go_wp2
            go_roundw
            case rel => exact ⟨j + 1, by omega, by go_num, hB, HF2⟩
            case measure => simp [intOf]; omega
          have HQ2 : Hid (innerV ps ⟨s, t, V⟩ M u = if kindI ps ⟨u, s, t⟩ ⟨u, s', t'⟩ ≠ 0 then some ⟨u, s', t'⟩ else innerV ps ⟨s, t, V⟩ (M.drop (j + 1)) u) := by
            show _ = _
            rw [HQ.out]
            by_cases e : kindI ps ⟨u, s, t⟩ ⟨u, s', t'⟩ ≠ 0
            · rw [if_pos ⟨hq1, hq2, e⟩, if_pos e]
            · rw [if_neg (fun h => e h.2.2), if_neg e]
          clear HQ hq1 hq2
          go_wp2_with fail
          refine wp_region_held_drew (S := fun w' => w'.cell? ⟨g1, o1 + i * 3, none⟩ = some (I64 s) ∧ w'.cell? ⟨g1, o1 + i * 3 + 1, none⟩ = some (I64 t)) (by kernel_rfl) ⟨d0, d1⟩ (fun hHeld => ?_)
          refine takeH (i := 0) (v := ?vv1) rfl (by kernel_rfl) (by kernel_rfl) (by kernel_rfl) (fun _ _ _ h => h) (Or.inl ⟨by rfl, ?hy1⟩) (by assumption) ?rest1
          case hy1 => (intro w hSw; (try dsimp only at hSw); go_simp; try with_reducible rfl)
          try simp only [Act.put, List.setIfInBounds_toArray, List.set_cons_zero, List.set_cons_succ]
          refine takeH (i := 1) (v := ?vv2) rfl (by kernel_rfl) (by kernel_rfl) (by kernel_rfl) (fun _ _ _ h => h) (Or.inl ⟨by rfl, ?hy2⟩) (by assumption) ?rest2
          case hy2 => (intro w hSw; (try dsimp only at hSw); go_simp; try with_reducible rfl)
          try simp only [Act.put, List.setIfInBounds_toArray, List.set_cons_zero, List.set_cons_succ]
          refine takeH (i := 2) (v := ?vv3) rfl (by kernel_rfl) (by kernel_rfl) (by kernel_rfl) (fun _ _ _ h => h) (Or.inl ⟨by rfl, ?hy3⟩) (by assumption) ?rest3
          case hy3 => (intro w hSw; (try dsimp only at hSw); go_simp; try with_reducible rfl)
          try simp only [Act.put, List.setIfInBounds_toArray, List.set_cons_zero, List.set_cons_succ]
          refine takeH (i := 3) (v := ?vv4) rfl (by kernel_rfl) (by kernel_rfl) (by kernel_rfl) (fun _ _ _ h => h) (Or.inl ⟨by rfl, ?hy4⟩) (by assumption) ?rest4
          case hy4 => (intro w hSw; (try dsimp only at hSw); go_simp; try with_reducible rfl)
          try simp only [Act.put, List.setIfInBounds_toArray, List.set_cons_zero, List.set_cons_succ]
          refine takeH (i := 4) (v := ?vv5) rfl (by kernel_rfl) (by kernel_rfl) (by kernel_rfl) (fun _ _ _ h => h) (Or.inl ⟨by rfl, ?hy5⟩) (by assumption) ?rest5
          case hy5 => (intro w hSw; (try dsimp only at hSw); go_simp; try with_reducible rfl)
          try simp only [Act.put, List.setIfInBounds_toArray, List.set_cons_zero, List.set_cons_succ]
          refine takeH (i := 5) (v := ?vv6) rfl (by kernel_rfl) (by kernel_rfl) (by kernel_rfl) (fun _ _ _ h => h) (Or.inl ⟨by rfl, ?hy6⟩) (by assumption) ?rest6
          case hy6 => (intro w hSw; (try dsimp only at hSw); go_simp; try with_reducible rfl)
          try simp only [Act.put, List.setIfInBounds_toArray, List.set_cons_zero, List.set_cons_succ]
          refine takeH (i := 6) (v := ?vv7) rfl (by kernel_rfl) (by kernel_rfl) (by kernel_rfl) (fun _ _ _ h => h) (Or.inl ⟨by rfl, ?hy7⟩) (by assumption) ?rest7
          case hy7 => (intro w hSw; (try dsimp only at hSw); go_simp; try with_reducible rfl)
          try simp only [Act.put, List.setIfInBounds_toArray, List.set_cons_zero, List.set_cons_succ]
          refine takeH (i := 7) (v := ?vv8) rfl (by kernel_rfl) (by kernel_rfl) (by kernel_rfl) (fun _ _ _ h => h) (Or.inl ⟨by rfl, ?hy8⟩) (by assumption) ?rest8
          case hy8 => (intro w hSw; (try dsimp only at hSw); go_simp; try with_reducible rfl)
          try simp only [Act.put, List.setIfInBounds_toArray, List.set_cons_zero, List.set_cons_succ]
          refine takeH (i := 8) (v := ?vv9) rfl (by kernel_rfl) (by kernel_rfl) (by kernel_rfl) (fun _ _ _ h => h) (Or.inl ⟨by rfl, ?hy9⟩) (by assumption) ?rest9
          case hy9 => (intro w hSw; (try dsimp only at hSw); go_simp; try with_reducible rfl)
          try simp only [Act.put, List.setIfInBounds_toArray, List.set_cons_zero, List.set_cons_succ]
          refine takeH (i := 9) (v := ?vv10) rfl (by kernel_rfl) (by kernel_rfl) (by kernel_rfl) (fun _ _ _ h => h) (Or.inl ⟨by rfl, ?hy10⟩) (by assumption) ?rest10
          case hy10 => (intro w hSw; (try dsimp only at hSw); go_simp; try with_reducible rfl)
          try simp only [Act.put, List.setIfInBounds_toArray, List.set_cons_zero, List.set_cons_succ]
          refine takeH (i := 10) (v := ?vv11) rfl (by kernel_rfl) (by kernel_rfl) (by kernel_rfl) (fun _ _ _ h => h) (Or.inl ⟨by rfl, ?hy11⟩) (by assumption) ?rest11
          case hy11 => (intro w hSw; (try dsimp only at hSw); go_simp; try with_reducible rfl)
          try simp only [Act.put, List.setIfInBounds_toArray, List.set_cons_zero, List.set_cons_succ]
          refine takeH (i := 11) (v := ?vv12) rfl (by kernel_rfl) (by kernel_rfl) (by kernel_rfl) (fun _ _ _ h => h) (Or.inl ⟨by rfl, ?hy12⟩) (by assumption) ?rest12
          case hy12 => (intro w hSw; (try dsimp only at hSw); go_simp; try with_reducible rfl)
          try simp only [Act.put, List.setIfInBounds_toArray, List.set_cons_zero, List.set_cons_succ]
          refine doneH (i := 12) rfl (by kernel_rfl) (by rfl) (fun K hK => ?_)
          have HK : Hid _ := hK
          clear hK
          go_simp
          obtain ⟨VW, hV⟩ : ∃ VW, (wq.alloc (.cells #[I64 0, I64 0, I64 0] 47)).drew = VW := ⟨_, rfl⟩
          have hVo : VW.heap[wq.heap.size]? = some (.cells #[I64 0, I64 0, I64 0] 47 (0, 0)) := by rw [← hV]; exact heap_alloc_new wq _
          have hBV : Below wq.heap.size wq VW := by rw [← hV]; exact ((Below.refl _ wq).alloc (Nat.le_refl _) _).drew
          have hVz : VW.heap.size = wq.heap.size + 1 := by rw [← hV]; simp
          rw [hV]
          clear hV hHeld
          obtain ⟨nx, hnx⟩ : ∃ n, wq.heap.size = n := ⟨_, rfl⟩
          rw [hnx] at hVo hVz ⊢
          have e1 : VW.cell? ⟨g1, o1 + i * 3, none⟩ = some (I64 s) ∧ VW.cell? ⟨g1, o1 + i * 3 + 1, none⟩ = some (I64 t) := ⟨(hBV.cell (p := ⟨g1, o1 + i * 3, none⟩) (World.block_lt_of_cell? _ _ d0)).trans d0, (hBV.cell (p := ⟨g1, o1 + i * 3 + 1, none⟩) (World.block_lt_of_cell? _ _ d1)).trans d1⟩
          have hne : ∀ o o' : Nat, (⟨nx, o, none⟩ : Addr) ≠ ⟨g1, o', none⟩ := by intro o o' he; have := World.block_lt_of_cell? _ _ d0; simp at he this; omega
          refine HK.out _ _ e1 (fun hHeld => ?_)
          clear HK K
          try simp only [Act.put, List.setIfInBounds_toArray, List.set_cons_zero, List.set_cons_succ]
          obtain ⟨⟨z0, z1, z2⟩, fz⟩ := three_cells hVo
          refine doneH (i := 13) rfl (by kernel_rfl) (by rfl) (fun K hK => ?_)
          have HK : Hid _ := hK
          clear hK
          go_simp
          have h3 := three_heap hVo (I64 u) (I64 s) (I64 t)
          have hB3 : Below wq.heap.size wq _ := three_below hBV (n := nx) (by omega) (I64 u) (I64 s) (I64 t)
          have hz3 : (((VW.setCell ⟨nx, 0, none⟩ (I64 u)).setCell ⟨nx, 1, none⟩ (I64 s)).setCell ⟨nx, 2, none⟩ (I64 t)).heap.size = nx + 1 := by simp; exact hVz
          generalize ((VW.setCell ⟨nx, 0, none⟩ (I64 u)).setCell ⟨nx, 1, none⟩ (I64 s)).setCell ⟨nx, 2, none⟩ (I64 t) = wx at h3 hB3 hz3 ⊢
          clear hHeld e1 z0 z1 z2 fz hVo hBV hVz hne
          have e2 : wx.cell? ⟨g1, o1 + i * 3, none⟩ = some (I64 s) ∧ wx.cell? ⟨g1, o1 + i * 3 + 1, none⟩ = some (I64 t) := ⟨(hB3.cell (p := ⟨g1, o1 + i * 3, none⟩) (World.block_lt_of_cell? _ _ d0)).trans d0, (hB3.cell (p := ⟨g1, o1 + i * 3 + 1, none⟩) (World.block_lt_of_cell? _ _ d1)).trans d1⟩
          refine HK.out _ _ e2 (fun hHeld => ?_)
          clear HK K
          try simp only [Act.put, List.setIfInBounds_toArray, List.set_cons_zero, List.set_cons_succ]
          clear hHeld e2
          refine wpAnyH_done (by kernel_rfl) ?_ _
          have hBx : Below w1.heap.size w1 wx := hB.trans (hB3.mono hB.size)
          have f0 := (hB3.cell (p := ⟨g2, o2 + j * 3, none⟩) (World.block_lt_of_cell? _ _ k0)).trans k0
          have f1 := (hB3.cell (p := ⟨g2, o2 + j * 3 + 1, none⟩) (World.block_lt_of_cell? _ _ k1)).trans k1
          have hxo := h3
          have HXZ : Hid (wx.heap.size = nx + 1) := hz3
          have hB0 := hB.size
          rw [hnx] at hB0
          clear h3 hz3 hB3 d0 d1 k0 k1
          go_wp2_with fail
          refine wp_region_held_drew (S := fun w' => w'.cell? ⟨g2, o2 + j * 3, none⟩ = some (I64 s') ∧ w'.cell? ⟨g2, o2 + j * 3 + 1, none⟩ = some (I64 t')) (by kernel_rfl) ⟨f0, f1⟩ (fun hHeld => ?_)
          refine takeH (i := 0) (v := ?vv13) rfl (by kernel_rfl) (by kernel_rfl) (by kernel_rfl) (fun _ _ _ h => h) (Or.inl ⟨by rfl, ?hy13⟩) (by assumption) ?rest13
          case hy13 => (intro w hSw; (try dsimp only at hSw); go_simp; try with_reducible rfl)
          try simp only [Act.put, List.setIfInBounds_toArray, List.set_cons_zero, List.set_cons_succ]
          refine takeH (i := 1) (v := ?vv14) rfl (by kernel_rfl) (by kernel_rfl) (by kernel_rfl) (fun _ _ _ h => h) (Or.inl ⟨by rfl, ?hy14⟩) (by assumption) ?rest14
          case hy14 => (intro w hSw; (try dsimp only at hSw); go_simp; try with_reducible rfl)
          try simp only [Act.put, List.setIfInBounds_toArray, List.set_cons_zero, List.set_cons_succ]
          refine takeH (i := 2) (v := ?vv15) rfl (by kernel_rfl) (by kernel_rfl) (by kernel_rfl) (fun _ _ _ h => h) (Or.inl ⟨by rfl, ?hy15⟩) (by assumption) ?rest15
          case hy15 => (intro w hSw; (try dsimp only at hSw); go_simp; try with_reducible rfl)
          try simp only [Act.put, List.setIfInBounds_toArray, List.set_cons_zero, List.set_cons_succ]
          refine takeH (i := 3) (v := ?vv16) rfl (by kernel_rfl) (by kernel_rfl) (by kernel_rfl) (fun _ _ _ h => h) (Or.inl ⟨by rfl, ?hy16⟩) (by assumption) ?rest16
          case hy16 => (intro w hSw; (try dsimp only at hSw); go_simp; try with_reducible rfl)
          try simp only [Act.put, List.setIfInBounds_toArray, List.set_cons_zero, List.set_cons_succ]
          refine takeH (i := 4) (v := ?vv17) rfl (by kernel_rfl) (by kernel_rfl) (by kernel_rfl) (fun _ _ _ h => h) (Or.inl ⟨by rfl, ?hy17⟩) (by assumption) ?rest17
          case hy17 => (intro w hSw; (try dsimp only at hSw); go_simp; try with_reducible rfl)
          try simp only [Act.put, List.setIfInBounds_toArray, List.set_cons_zero, List.set_cons_succ]
          refine takeH (i := 5) (v := ?vv18) rfl (by kernel_rfl) (by kernel_rfl) (by kernel_rfl) (fun _ _ _ h => h) (Or.inl ⟨by rfl, ?hy18⟩) (by assumption) ?rest18
          case hy18 => (intro w hSw; (try dsimp only at hSw); go_simp; try with_reducible rfl)
          try simp only [Act.put, List.setIfInBounds_toArray, List.set_cons_zero, List.set_cons_succ]
          refine takeH (i := 6) (v := ?vv19) rfl (by kernel_rfl) (by kernel_rfl) (by kernel_rfl) (fun _ _ _ h => h) (Or.inl ⟨by rfl, ?hy19⟩) (by assumption) ?rest19
          case hy19 => (intro w hSw; (try dsimp only at hSw); go_simp; try with_reducible rfl)
          try simp only [Act.put, List.setIfInBounds_toArray, List.set_cons_zero, List.set_cons_succ]
          refine takeH (i := 7) (v := ?vv20) rfl (by kernel_rfl) (by kernel_rfl) (by kernel_rfl) (fun _ _ _ h => h) (Or.inl ⟨by rfl, ?hy20⟩) (by assumption) ?rest20
          case hy20 => (intro w hSw; (try dsimp only at hSw); go_simp; try with_reducible rfl)
          try simp only [Act.put, List.setIfInBounds_toArray, List.set_cons_zero, List.set_cons_succ]
          refine takeH (i := 8) (v := ?vv21) rfl (by kernel_rfl) (by kernel_rfl) (by kernel_rfl) (fun _ _ _ h => h) (Or.inl ⟨by rfl, ?hy21⟩) (by assumption) ?rest21
          case hy21 => (intro w hSw; (try dsimp only at hSw); go_simp; try with_reducible rfl)
          try simp only [Act.put, List.setIfInBounds_toArray, List.set_cons_zero, List.set_cons_succ]
          refine takeH (i := 9) (v := ?vv22) rfl (by kernel_rfl) (by kernel_rfl) (by kernel_rfl) (fun _ _ _ h => h) (Or.inl ⟨by rfl, ?hy22⟩) (by assumption) ?rest22
          case hy22 => (intro w hSw; (try dsimp only at hSw); go_simp; try with_reducible rfl)
          try simp only [Act.put, List.setIfInBounds_toArray, List.set_cons_zero, List.set_cons_succ]
          refine takeH (i := 10) (v := ?vv23) rfl (by kernel_rfl) (by kernel_rfl) (by kernel_rfl) (fun _ _ _ h => h) (Or.inl ⟨by rfl, ?hy23⟩) (by assumption) ?rest23
          case hy23 => (intro w hSw; (try dsimp only at hSw); go_simp; try with_reducible rfl)
          try simp only [Act.put, List.setIfInBounds_toArray, List.set_cons_zero, List.set_cons_succ]
          refine takeH (i := 11) (v := ?vv24) rfl (by kernel_rfl) (by kernel_rfl) (by kernel_rfl) (fun _ _ _ h => h) (Or.inl ⟨by rfl, ?hy24⟩) (by assumption) ?rest24
          case hy24 => (intro w hSw; (try dsimp only at hSw); go_simp; try with_reducible rfl)
          try simp only [Act.put, List.setIfInBounds_toArray, List.set_cons_zero, List.set_cons_succ]
          refine doneH (i := 12) rfl (by kernel_rfl) (by rfl) (fun K hK => ?_)
          have HK : Hid _ := hK
          clear hK
          go_simp
          obtain ⟨VW, hV⟩ : ∃ VW, (wx.alloc (.cells #[I64 0, I64 0, I64 0] 47)).drew = VW := ⟨_, rfl⟩
          have hVo : VW.heap[wx.heap.size]? = some (.cells #[I64 0, I64 0, I64 0] 47 (0, 0)) := by rw [← hV]; exact heap_alloc_new wx _
          have hBV : Below wx.heap.size wx VW := by rw [← hV]; exact ((Below.refl _ wx).alloc (Nat.le_refl _) _).drew
          have hVz : VW.heap.size = wx.heap.size + 1 := by rw [← hV]; simp
          rw [hV]
          clear hV hHeld
          obtain ⟨ny, hny⟩ : ∃ n, wx.heap.size = n := ⟨_, rfl⟩
          rw [hny] at hVo hVz ⊢
          have e1 : VW.cell? ⟨g2, o2 + j * 3, none⟩ = some (I64 s') ∧ VW.cell? ⟨g2, o2 + j * 3 + 1, none⟩ = some (I64 t') := ⟨(hBV.cell (p := ⟨g2, o2 + j * 3, none⟩) (World.block_lt_of_cell? _ _ f0)).trans f0, (hBV.cell (p := ⟨g2, o2 + j * 3 + 1, none⟩) (World.block_lt_of_cell? _ _ f1)).trans f1⟩
          have hne : ∀ o o' : Nat, (⟨ny, o, none⟩ : Addr) ≠ ⟨g2, o', none⟩ := by intro o o' he; have := World.block_lt_of_cell? _ _ f0; simp at he this; omega
          refine HK.out _ _ e1 (fun hHeld => ?_)
          clear HK K
          try simp only [Act.put, List.setIfInBounds_toArray, List.set_cons_zero, List.set_cons_succ]
          obtain ⟨⟨z0, z1, z2⟩, fz⟩ := three_cells hVo
          refine doneH (i := 13) rfl (by kernel_rfl) (by rfl) (fun K hK => ?_)
          have HK : Hid _ := hK
          clear hK
          go_simp
          have h3 := three_heap hVo (I64 u) (I64 s') (I64 t')
          have hB3 : Below wx.heap.size wx _ := three_below hBV (n := ny) (by omega) (I64 u) (I64 s') (I64 t')
          have hz3 : (((VW.setCell ⟨ny, 0, none⟩ (I64 u)).setCell ⟨ny, 1, none⟩ (I64 s')).setCell ⟨ny, 2, none⟩ (I64 t')).heap.size = ny + 1 := by simp; exact hVz
          generalize ((VW.setCell ⟨ny, 0, none⟩ (I64 u)).setCell ⟨ny, 1, none⟩ (I64 s')).setCell ⟨ny, 2, none⟩ (I64 t') = wy at h3 hB3 hz3 ⊢
          clear hHeld e1 z0 z1 z2 fz hVo hBV hVz hne
          have e2 : wy.cell? ⟨g2, o2 + j * 3, none⟩ = some (I64 s') ∧ wy.cell? ⟨g2, o2 + j * 3 + 1, none⟩ = some (I64 t') := ⟨(hB3.cell (p := ⟨g2, o2 + j * 3, none⟩) (World.block_lt_of_cell? _ _ f0)).trans f0, (hB3.cell (p := ⟨g2, o2 + j * 3 + 1, none⟩) (World.block_lt_of_cell? _ _ f1)).trans f1⟩
          refine HK.out _ _ e2 (fun hHeld => ?_)
          clear HK K
          try simp only [Act.put, List.setIfInBounds_toArray, List.set_cons_zero, List.set_cons_succ]
          clear hHeld e2
          refine wpAnyH_done (by kernel_rfl) ?_ _
          have hBy : Below w1.heap.size w1 wy := hBx.trans (hB3.mono hBx.size)
          have hxz := HXZ.out
          have hxo2 := (hB3.block nx (by omega)).trans hxo
          obtain ⟨⟨z0, z1, z2⟩, fz⟩ := three_cells hxo2
          obtain ⟨⟨v0, v1, v2⟩, fv⟩ := three_cells h3
          have hkd := HKD wy (hA.below hBy hlb hlg)
          obtain ⟨kd, hkd'⟩ : ∃ k, kindI ps ⟨u, s, t⟩ ⟨u, s', t'⟩ = k := ⟨_, rfl⟩
          rw [hkd'] at hkd hkp HQ2
          have HKK : Hid (kindI ps ⟨u, s, t⟩ ⟨u, s', t'⟩ = kd) := hkd'
          clear hkd' HKD f0 f1
          unfold Vt.val at hkd
          dsimp only at hkd
          go_wp2_with fail
          refine hkd.mono ?_
          rintro e W3 ⟨rfl, hB5⟩
          have hB6 : Below w1.heap.size w1 W3 := hBy.trans (hB5.mono hBy.size)
          have hx3 := (hB5.block nx (by omega)).trans hxo2
          have hy3 := (hB5.block ny (by omega)).trans h3
          clear hkd z0 z1 z2 fz v0 v1 v2 fv
          by_cases hkz : kd = 0
          · have q : ¬ (0 : Int) < kd := by omega
            have HF2 : Hid (innerV ps ⟨s, t, V⟩ M u = innerV ps ⟨s, t, V⟩ (M.drop (j + 1)) u) := by show _ = _; rw [HQ2.out, if_neg (by omega)]
            clear HQ2 hx3 hy3
            go_wp2
            go_roundw
            case rel => exact ⟨j + 1, by omega, by go_num, hB6, HF2⟩
            case measure => simp [intOf]; omega
          · have q : (0 : Int) < kd := by omega
            have HR : Hid (judgeV ps L M u = some ⟨u, kd, ⟨u, s, t⟩, ⟨u, s', t'⟩⟩) := by
              show _ = _
              have e : innerV ps ⟨s, t, V⟩ M u = some ⟨u, s', t'⟩ := by rw [HQ2.out, if_pos hkz]
              rw [HP.out, e]
              simp [HKK.out]
            clear HQ2 HP hkz
            obtain ⟨⟨z0, z1, z2⟩, _⟩ := three_cells hx3
            obtain ⟨⟨v0, v1, v2⟩, _⟩ := three_cells hy3
            have hrw : W3.heap[w.heap.size]? = some (.cells #[I64 0, I64 0, I64 0, I64 0, I64 0, I64 0, I64 0, I64 0] 84 (0, 0)) := (hB6.block _ (by omega)).trans hr1
            obtain ⟨r0, r1, r2, r3, r4, r5, r6, r7⟩ := eight_cells hrw
            have fz : ∀ o, W3.frozen? ⟨w.heap.size, o, none⟩ = false := fun o => frozen_of_heap hrw o
            have HRW : Hid _ := hrw
            clear hrw hr1 hx3 hy3 hxo hxo2 h3
            go_wp2
            have h8 := put8_heap HRW.out (I64 u) (I64 kd) (I64 u) (I64 s) (I64 t) (I64 u) (I64 s') (I64 t')
            obtain ⟨y0, y1, y2, y3, y4, y5, y6, y7⟩ := eight_cells h8
            unfold put8 at y0 y1 y2 y3 y4 y5 y6 y7
            refine ⟨rfl, guV (judgeV ps L M u), ?_, rfl, put8_below (hBa.trans (hB6.mono hBa.size)) (Nat.le_refl _) _ _ _ _ _ _ _ _⟩
            rw [HR.out]
            simp only [results, Tryz.f139]
            simp [go_sem, y0, y1, y2, y3, y4, y5, y6, y7]
        · have HP' : Hid (judgeV ps L M u = judgeV ps (L.drop (i + 1)) M u) := by
            have hF' := hF.out
            rw [List.drop_eq_nil_of_le (by rw [HMl.out]; omega), innerV_nil] at hF'
            show _ = _
            rw [HP.out, hF']
          clear HP hF
          go_wp2
          go_roundw
          case rel => exact ⟨i + 1, by omega, by go_num, hB, HP'⟩
          case measure => simp [intOf]; omega
    · have hrw : wr.heap[w.heap.size]? = some (.cells #[I64 0, I64 0, I64 0, I64 0, I64 0, I64 0, I64 0, I64 0] 84 (0, 0)) := (hB.block _ (by omega)).trans hr1
      obtain ⟨z0, z1, z2, z3, z4, z5, z6, z7⟩ := eight_cells hrw
      have fz : ∀ o, wr.frozen? ⟨w.heap.size, o, none⟩ = false := fun o => frozen_of_heap hrw o
      have HRW : Hid _ := hrw
      clear hrw hr1
      go_wp2
      have HN : Hid (judgeV ps L M u = none) := by
        show _ = _
        rw [hP.out, List.drop_eq_nil_of_le (by rw [HLl.out]; omega), judgeV_nil]
      have h8 := put8_heap HRW.out (I64 0) (I64 0) (I64 0) (I64 0) (I64 0) (I64 0) (I64 0) (I64 0)
      obtain ⟨y0, y1, y2, y3, y4, y5, y6, y7⟩ := eight_cells h8
      unfold put8 at y0 y1 y2 y3 y4 y5 y6 y7
      refine ⟨rfl, guV (judgeV ps L M u), ?_, rfl, put8_below (hBa.trans (hB.mono hBa.size)) (Nat.le_refl _) _ _ _ _ _ _ _ _⟩
      rw [HN.out]
      simp only [results, Tryz.f139]
      simp [go_sem, y0, y1, y2, y3, y4, y5, y6, y7]
end Go.Proofs.YtgebcnnenhgkcaaGreat
/- The document's own answer: Judge. -/
namespace Go.Proofs.YtgebcnnenhgkcaaGreat
open Go.RowKit Go.Shelf

theorem judgeV_pos {ps : List Int} {one other : List Lk} {v : Int} {g : Gu} (h : judgeV ps one other v = some g) : 0 < g.k := by
  unfold judgeV at h
  cases hp : firstF (kindI ps) (ofL one v) (ofL other v) with
  | none => rw [hp] at h; cases h
  | some p =>
    rw [hp] at h
    obtain ⟨k, x, y⟩ := p
    simp only [Option.map_some, Option.some.injEq] at h
    obtain ⟨_, _, h3, h4⟩ := firstF_some hp
    have := kindI_nn ps x y
    rw [← h]
    show 0 < k
    omega

set_option maxRecDepth 100000 in
set_option maxHeartbeats 8000000 in
theorem rJudge_at (pw pq p1 p2 : Option Addr) (cw cq c1 c2 : Nat) (ws ps : List Int) (X Y : List LkV) (w : World) (hww : IntsAt w pw ws) (hwl : ws.length ≤ maxLen) (hpp : IntsAt w pq ps) (hpl : ps.length ≤ maxLen) (h1 : LkAt w p1 X) (h2 : LkAt w p2 Y) (hX : X.length ≤ maxLen) (hY : Y.length ≤ maxLen) :
    Calls Tryz.prog 117 #[.slice pw ws.length cw, .slice pq ps.length cq, .slice p1 X.length c1, .slice p2 Y.length c2] w fun e w' => (∃ v, e = .returned (.tuple #[.agg #[v, .int .i64 (guW ws (judgeG ws ps (X.map (fun x => x.1)) (Y.map (fun x => x.1))))], .int .i64 (judgeE ws ps (X.map (fun x => x.1)) (Y.map (fun x => x.1)))]) ∧ w'.ownsRow w.heap.size 84 8 v (judgeG ws ps (X.map (fun x => x.1)) (Y.map (fun x => x.1))).length (guRow (judgeG ws ps (X.map (fun x => x.1)) (Y.map (fun x => x.1))))) ∧ Below w.heap.size w w' := by
  obtain ⟨L, hL⟩ : ∃ L, X.map (fun x => x.1) = L := ⟨_, rfl⟩
  obtain ⟨M, hM⟩ : ∃ M, Y.map (fun x => x.1) = M := ⟨_, rfl⟩
  obtain ⟨i0, hi, hz0, hz1, hz2⟩ := info_parts info_guilt
  have HXL : Hid (X.map (fun x => x.1) = L) := hL
  have HYM : Hid (Y.map (fun x => x.1) = M) := hM
  rw [hL, hM]
  clear hL hM
  have fin : ∀ (W : World) (v : Value) (k : Int), Below w.heap.size w W → W.heap[w.heap.size]? = some (.cells #[.slice none 0 0, I64 0] 74 (0, 0)) → ((W.setCell ⟨w.heap.size, 0, none⟩ v).setCell ⟨w.heap.size, 1, none⟩ (I64 k)).cell? ⟨w.heap.size, 0, none⟩ = some v ∧ ((W.setCell ⟨w.heap.size, 0, none⟩ v).setCell ⟨w.heap.size, 1, none⟩ (I64 k)).cell? ⟨w.heap.size, 1, none⟩ = some (I64 k) ∧ Below w.heap.size w ((W.setCell ⟨w.heap.size, 0, none⟩ v).setCell ⟨w.heap.size, 1, none⟩ (I64 k)) := fun W v k hB hr => by
    have h2w := two_heap hr v (I64 k)
    exact ⟨by rw [cell_of_heap h2w]; rfl, by rw [cell_of_heap h2w]; rfl, (hB.setCell (p := ⟨w.heap.size, 0, none⟩) (Nat.le_refl _) _).setCell (p := ⟨w.heap.size, 1, none⟩) (Nat.le_refl _) _⟩
  have HFIN : Hid _ := fin
  have cells : ∀ (W : World), W.heap[w.heap.size]? = some (.cells #[.slice none 0 0, I64 0] 74 (0, 0)) → (W.cell? ⟨w.heap.size, 0, none⟩ = some (.slice none 0 0) ∧ W.cell? ⟨w.heap.size, 1, none⟩ = some (I64 0)) ∧ ∀ o, W.frozen? ⟨w.heap.size, o, none⟩ = false := fun W hr => ⟨⟨by rw [cell_of_heap hr]; rfl, by rw [cell_of_heap hr]; rfl⟩, fun o => frozen_of_heap hr o⟩
  have HC : Hid _ := cells
  clear fin cells
  have hB0 : Below w.heap.size w (w.alloc (.cells #[.slice none 0 0, I64 0] 74)) := (Below.refl _ w).alloc (Nat.le_refl _) _
  have hrg := fun W hI => refWeights_at pw cw ws W hI hwl
  have htr := fun W hI => rTree_at pq cq ps W hI hpl
  go_enter Tryz.func117, Tryz.ntmps117
  go_wp2_with fail
  obtain ⟨wa, hwa⟩ : ∃ wa, w.alloc (.cells #[.slice none 0 0, I64 0] 74) = wa := ⟨_, rfl⟩
  have hra : wa.heap[w.heap.size]? = some (.cells #[.slice none 0 0, I64 0] 74 (0, 0)) := by rw [← hwa]; exact heap_alloc_new w _
  have hza : wa.heap.size = w.heap.size + 1 := by rw [← hwa]; simp
  rw [hwa] at hB0 ⊢
  clear hwa
  refine (hrg wa (hww.below' hB0)).mono ?_
  rintro e w1 ⟨rfl, hw1⟩
  subst hw1
  clear hrg
  cases hok : okW ws
  · have HE : Hid (judgeE ws ps L M = 1) := by show _ = _; unfold judgeE; rw [hok]; rfl
    have HG : Hid (judgeG ws ps L M = []) := by show _ = _; unfold judgeG; rw [HE.out]; rfl
    clear hok
    obtain ⟨⟨z0, z1⟩, fz⟩ := HC.out w1 hra
    have HR : Hid _ := hra
    clear hra
    go_wp2
    obtain ⟨y0, y1, hBf⟩ := HFIN.out w1 (.slice none 0 0) 0 hB0 HR.out
    refine ⟨rfl, .tuple #[.agg #[.slice none 0 0, I64 0], .int .i64 1], ?_, ⟨_, by rw [HE.out, HG.out]; rfl, by rw [HG.out]; exact World.ownsRow_nil _ _ _ _⟩, hBf⟩
    simp only [results, Tryz.f117]
    simp [go_sem, y0, y1]
  have hW := okWs_of hok
  go_wp2_with fail
  refine (htr w1 (hpp.below' hB0)).mono ?_
  rintro e w2 ⟨rfl, hw2⟩
  subst hw2
  clear htr
  cases htb : treeB ps
  · have HE : Hid (judgeE ws ps L M = 2) := by show _ = _; unfold judgeE; rw [hok, htb]; rfl
    have HG : Hid (judgeG ws ps L M = []) := by show _ = _; unfold judgeG; rw [HE.out]; rfl
    clear hok htb
    obtain ⟨⟨z0, z1⟩, fz⟩ := HC.out w2 hra
    have HR : Hid _ := hra
    clear hra
    go_wp2
    obtain ⟨y0, y1, hBf⟩ := HFIN.out w2 (.slice none 0 0) 0 hB0 HR.out
    refine ⟨rfl, .tuple #[.agg #[.slice none 0 0, I64 0], .int .i64 2], ?_, ⟨_, by rw [HE.out, HG.out]; rfl, by rw [HG.out]; exact World.ownsRow_nil _ _ _ _⟩, hBf⟩
    simp only [results, Tryz.f117]
    simp [go_sem, y0, y1]
  have hT := treeB_iff.1 htb
  have HE : Hid (judgeE ws ps L M = suitE ws ps L M) := by show _ = _; unfold judgeE; rw [hok, htb]; rfl
  have HG : Hid (judgeG ws ps L M = suitG ws ps L M) := by show _ = _; unfold judgeG suitG; rw [HE.out]
  clear hok htb
  have hp0 := hT.1
  have hw0 := hW.pos
  have hw12 := hW.le
  rcases hpp with h9 | ⟨gq, oq, rfl, hcq⟩
  · rw [h9] at hp0; simp at hp0
  rcases hww with h9 | ⟨gw, ow, rfl, hcw⟩
  · rw [h9] at hw0; simp at hw0
  have HCQ : Hid (∀ j, j < ps.length → w.cell? ⟨gq, oq + j, none⟩ = some (I64 (ps[j]?.getD 0))) := hcq
  have HCW : Hid (∀ j, j < ws.length → w.cell? ⟨gw, ow + j, none⟩ = some (I64 (ws[j]?.getD 0))) := hcw
  clear hcq hcw
  have mkR : ∀ W : World, Below w.heap.size w W → W.heap[w.heap.size + 1]? = some (.cells #[.slice (some ⟨gw, ow, none⟩) ws.length cw, .slice (some ⟨gq, oq, none⟩) ps.length cq, .slice none 0 0] 41 (0, 0)) → RIn W (w.heap.size + 1) gw ow cw gq oq cq ws ps := fun W hB hc =>
    ⟨by rw [cell_of_heap hc]; rfl, fun j hj => (hB.cell (p := ⟨gw, ow + j, none⟩) (World.block_lt_of_cell? w _ (HCW.out j hj))).trans (HCW.out j hj), ⟨by rw [cell_of_heap hc]; rfl, fun j hj => (hB.cell (p := ⟨gq, oq + j, none⟩) (World.block_lt_of_cell? w _ (HCQ.out j hj))).trans (HCQ.out j hj)⟩⟩
  have MKR : Hid _ := mkR
  clear mkR
  have hr1 := fun W hR hL => rRight_at (w.heap.size + 1) gw ow cw gq oq cq ws ps X p1 c1 W hR hT hW hL hX
  have hr2 := fun W hR hL => rRight_at (w.heap.size + 1) gw ow cw gq oq cq ws ps Y p2 c2 W hR hT hW hL hY
  rw [HXL.out] at hr1
  rw [HYM.out] at hr2
  have HR2 : Hid _ := hr2
  have HR1 : Hid _ := hr1
  clear hr1 hr2
  go_wp2_with fail
  obtain ⟨w3, hw3⟩ : ∃ w3, w2.alloc (.cells #[.slice (some ⟨gw, ow, none⟩) ws.length cw, .slice (some ⟨gq, oq, none⟩) ps.length cq, .slice none 0 0] 41) = w3 := ⟨_, rfl⟩
  have hc3 : w3.heap[w.heap.size + 1]? = some (.cells #[.slice (some ⟨gw, ow, none⟩) ws.length cw, .slice (some ⟨gq, oq, none⟩) ps.length cq, .slice none 0 0] 41 (0, 0)) := by rw [← hw3, ← hza]; exact heap_alloc_new w2 _
  have hB3 : Below w.heap.size w w3 := by rw [← hw3]; exact hB0.alloc (by omega) _
  have hr3 : w3.heap[w.heap.size]? = some (.cells #[.slice none 0 0, I64 0] 74 (0, 0)) := by rw [← hw3, Below.heap_alloc _ _ _ (by omega)]; exact hra
  have hz3 : w3.heap.size = w.heap.size + 1 + 1 := by rw [← hw3]; simp; omega
  rw [hw3]
  try rw [hza]
  clear hw3 hra hB0
  refine (HR1.out w3 (MKR.out w3 hB3 hc3) (h1.below hB3)).mono ?_
  rintro e w4 ⟨rfl, hB4⟩
  have hBw4 : Below w.heap.size w w4 := hB3.trans (hB4.mono (by omega))
  have hc4 := (hB4.block (w.heap.size + 1) (by omega)).trans hc3
  have hr4 := (hB4.block w.heap.size (by omega)).trans hr3
  have hz4 := hB4.size
  clear hc3 hr3
  go_wp2_with fail
  refine (HR2.out w4 (MKR.out w4 hBw4 hc4) (h2.below hBw4)).mono ?_
  rintro e w5 ⟨rfl, hB5⟩
  have hBw5 : Below w.heap.size w w5 := hBw4.trans (hB5.mono (by omega))
  have hc5 := (hB5.block (w.heap.size + 1) (by omega)).trans hc4
  have hr5 := (hB5.block w.heap.size (by omega)).trans hr4
  have hz5 := hB5.size
  clear hc4 hr4 HR1 HR2
  cases hq1 : rightB ws ps L
  · cases rightB ws ps M
    all_goals
      have HE : Hid (judgeE ws ps L M = 9) := by show _ = _; rw [HE.out]; unfold suitE; rw [hq1]; rfl
      have HG : Hid (judgeG ws ps L M = []) := by show _ = _; unfold judgeG; rw [HE.out]; rfl
      clear hq1
      obtain ⟨⟨z0, z1⟩, fz⟩ := HC.out w5 hr5
      have HR : Hid _ := hr5
      clear hr5
      go_wp2
      obtain ⟨y0, y1, hBf⟩ := HFIN.out w5 (.slice none 0 0) 0 hBw5 HR.out
      refine ⟨rfl, .tuple #[.agg #[.slice none 0 0, I64 0], .int .i64 9], ?_, ⟨_, by rw [HE.out, HG.out]; rfl, by rw [HG.out]; exact World.ownsRow_nil _ _ _ _⟩, hBf⟩
      simp only [results, Tryz.f117]
      simp [go_sem, y0, y1]
  cases hq2 : rightB ws ps M
  · have HE : Hid (judgeE ws ps L M = 9) := by show _ = _; rw [HE.out]; unfold suitE; rw [hq1, hq2]; rfl
    have HG : Hid (judgeG ws ps L M = []) := by show _ = _; unfold judgeG; rw [HE.out]; rfl
    clear hq1 hq2
    obtain ⟨⟨z0, z1⟩, fz⟩ := HC.out w5 hr5
    have HR : Hid _ := hr5
    clear hr5
    go_wp2
    obtain ⟨y0, y1, hBf⟩ := HFIN.out w5 (.slice none 0 0) 0 hBw5 HR.out
    refine ⟨rfl, .tuple #[.agg #[.slice none 0 0, I64 0], .int .i64 9], ?_, ⟨_, by rw [HE.out, HG.out]; rfl, by rw [HG.out]; exact World.ownsRow_nil _ _ _ _⟩, hBf⟩
    simp only [results, Tryz.f117]
    simp [go_sem, y0, y1]
  obtain ⟨l0, l1, l2, l3⟩ := rt_last hT hq1
  obtain ⟨m0, m1, m2, m3⟩ := rt_last hT hq2
  have hSE : suitE ws ps L M = if agreeB ps (lastS L) (lastS M) = true then 10 else 0 := by unfold suitE; rw [hq1, hq2]; rfl
  have hag := fun W hA => rAgree_at (w.heap.size + 1) gq oq cq ps hT (lastS L) (lastS M) l0 l1 m0 m1 W hA
  have hfold : (lastS L == lastS M || (ahead ps (lastS L) (lastS M) || ahead ps (lastS M) (lastS L))) = agreeB ps (lastS L) (lastS M) := rfl
  rw [hfold] at hag
  have hXl : X.length = L.length := by rw [← HXL.out]; simp
  have hYl : Y.length = M.length := by rw [← HYM.out]; simp
  have HbX : Hid (∀ x ∈ X, ∀ u, OkB ps ⟨u, x.1.s, x.1.t⟩) := fun x hx u => rt_okB hT hq1 (by rw [← HXL.out]; exact List.mem_map.2 ⟨x, hx, rfl⟩) u
  have HbY : Hid (∀ x ∈ Y, ∀ u, OkB ps ⟨u, x.1.s, x.1.t⟩) := fun x hx u => rt_okB hT hq2 (by rw [← HYM.out]; exact List.mem_map.2 ⟨x, hx, rfl⟩) u
  clear hq1 hq2 hfold
  have hX4 : X.length ≤ 40 := by omega
  have hY4 : Y.length ≤ 40 := by omega
  have hX1 : 0 < X.length := by omega
  have hY1 : 0 < Y.length := by omega
  clear hX hY l2 l3 m2 m3 hXl hYl
  have hagn := fun (k : Nat) W hR hA hB => against_at (w.heap.size + 1) gw ow cw gq oq cq ws ps X Y p1 p2 c1 c2 (k : Int) W hR hT hA hB hX4 hY4 (fun x hx => HbX.out x hx _) (fun x hx => HbY.out x hx _)
  rw [HXL.out, HYM.out] at hagn
  have HLX : Hid (LkAt w p1 X) := h1
  have HLY : Hid (LkAt w p2 Y) := h2
  have HAG : Hid _ := hagn
  clear hagn
  rcases h1.at' with h9 | ⟨g1, o1, rfl, hcs1⟩
  · rw [h9] at hX1; simp at hX1
  rcases h2.at' with h9 | ⟨g2, o2, rfl, hcs2⟩
  · rw [h9] at hY1; simp at hY1
  obtain ⟨x, hx⟩ : ∃ x, X[X.length - 1]? = some x := ⟨_, List.getElem?_eq_getElem (by omega)⟩
  obtain ⟨y, hy⟩ : ∃ y, Y[Y.length - 1]? = some y := ⟨_, List.getElem?_eq_getElem (by omega)⟩
  have hlx : lastS L = x.1.s := by rw [← HXL.out]; unfold lastS; simp [hx]
  have hly : lastS M = y.1.s := by rw [← HYM.out]; unfold lastS; simp [hy]
  have x0 := (hcs1 (X.length - 1) x hx).1
  have y0 := (hcs2 (Y.length - 1) y hy).1
  rw [← hlx] at x0
  rw [← hly] at y0
  have k0 := (hBw5.cell (p := ⟨g1, o1 + (X.length - 1) * 3, none⟩) (World.block_lt_of_cell? w _ x0)).trans x0
  have k1 := (hBw5.cell (p := ⟨g2, o2 + (Y.length - 1) * 3, none⟩) (World.block_lt_of_cell? w _ y0)).trans y0
  clear x0 y0 hlx hly hx hy x y hcs1 hcs2 h1 h2
  obtain ⟨ll, hll⟩ : ∃ ll, lastS L = ll := ⟨_, rfl⟩
  obtain ⟨lm, hlm⟩ : ∃ lm, lastS M = lm := ⟨_, rfl⟩
  rw [hll] at hag k0 hSE
  rw [hlm] at hag k1 hSE
  obtain ⟨qa, hqa⟩ : ∃ qa, agreeB ps ll lm = qa := ⟨_, rfl⟩
  rw [hqa] at hag hSE
  have HSE : Hid _ := hSE
  clear hll hlm hqa hSE l0 l1 m0 m1
  have hks : (X.length : Int) - 1 = ((X.length - 1 : Nat) : Int) := by omega
  have hkw : IntKind.i64.wrap ((X.length - 1 : Nat) : Int) = ((X.length - 1 : Nat) : Int) := Go.IntWalk.i64_in _ (by omega)
  have hkm : X.length - 1 < X.length := by omega
  have hkm' : ((X.length - 1 : Nat) : Int) < (X.length : Int) := by omega
  have hks2 : (Y.length : Int) - 1 = ((Y.length - 1 : Nat) : Int) := by omega
  have hkw2 : IntKind.i64.wrap ((Y.length - 1 : Nat) : Int) = ((Y.length - 1 : Nat) : Int) := Go.IntWalk.i64_in _ (by omega)
  have hkm2 : Y.length - 1 < Y.length := by omega
  have hkm2' : ((Y.length - 1 : Nat) : Int) < (Y.length : Int) := by omega
  have hAd := (MKR.out w5.drew hBw5.drew hc5).tr
  go_wp2_with fail
  refine wp_region_held_drew (S := fun w' => w'.cell? ⟨g1, o1 + (X.length - 1) * 3, none⟩ = some (I64 ll) ∧ w'.cell? ⟨g2, o2 + (Y.length - 1) * 3, none⟩ = some (I64 lm)) (by kernel_rfl) ⟨k0, k1⟩ (fun hHeld => ?_)
  refine takeH (i := 0) (v := ?vv1) rfl (by kernel_rfl) (by kernel_rfl) (by kernel_rfl) (fun _ _ _ h => h) (Or.inl ⟨by rfl, ?hy1⟩) (by assumption) ?rest1
  case hy1 => (intro w hSw; (try dsimp only at hSw); go_simp; try with_reducible rfl)
  try simp only [Act.put, List.setIfInBounds_toArray, List.set_cons_zero, List.set_cons_succ]
  refine takeH (i := 1) (v := ?vv2) rfl (by kernel_rfl) (by kernel_rfl) (by kernel_rfl) (fun _ _ _ h => h) (Or.inl ⟨by rfl, ?hy2⟩) (by assumption) ?rest2
  case hy2 => (intro w hSw; (try dsimp only at hSw); go_simp; try with_reducible rfl)
  try simp only [Act.put, List.setIfInBounds_toArray, List.set_cons_zero, List.set_cons_succ]
  refine takeH (i := 2) (v := ?vv3) rfl (by kernel_rfl) (by kernel_rfl) (by kernel_rfl) (fun _ _ _ h => h) (Or.inl ⟨by rfl, ?hy3⟩) (by assumption) ?rest3
  case hy3 => (intro w hSw; (try dsimp only at hSw); go_simp; try with_reducible rfl)
  try simp only [Act.put, List.setIfInBounds_toArray, List.set_cons_zero, List.set_cons_succ]
  refine takeH (i := 3) (v := ?vv4) rfl (by kernel_rfl) (by kernel_rfl) (by kernel_rfl) (fun _ _ _ h => h) (Or.inl ⟨by rfl, ?hy4⟩) (by assumption) ?rest4
  case hy4 => (intro w hSw; (try dsimp only at hSw); go_simp; try with_reducible rfl)
  try simp only [Act.put, List.setIfInBounds_toArray, List.set_cons_zero, List.set_cons_succ]
  refine takeH (i := 4) (v := .int .i64 ((X.length - 1 : Nat) : Int)) rfl (by kernel_rfl) (by kernel_rfl) (by kernel_rfl) (fun _ _ _ h => h) (Or.inl ⟨by rfl, ?hy5⟩) (by assumption) ?rest5
  case hy5 => (intro w hSw; (try dsimp only at hSw); go_simp; try simp [*]; try omega)
  try simp only [Act.put, List.setIfInBounds_toArray, List.set_cons_zero, List.set_cons_succ]
  refine takeH (i := 5) (v := .pointer (some ⟨g1, o1 + (X.length - 1) * 3, none⟩)) rfl (by kernel_rfl) (by kernel_rfl) (by kernel_rfl) (fun _ _ _ h => h) (Or.inl ⟨by rfl, ?hy6⟩) (by assumption) ?rest6
  case hy6 => (intro w hSw; (try dsimp only at hSw); go_simp; try simp [*]; try omega)
  try simp only [Act.put, List.setIfInBounds_toArray, List.set_cons_zero, List.set_cons_succ]
  refine takeH (i := 6) (v := ?vv7) rfl (by kernel_rfl) (by kernel_rfl) (by kernel_rfl) (fun _ _ _ h => h) (Or.inl ⟨by rfl, ?hy7⟩) (by assumption) ?rest7
  case hy7 => (intro w hSw; (try dsimp only at hSw); go_simp; try with_reducible rfl)
  try simp only [Act.put, List.setIfInBounds_toArray, List.set_cons_zero, List.set_cons_succ]
  refine takeH (i := 7) (v := ?vv8) rfl (by kernel_rfl) (by kernel_rfl) (by kernel_rfl) (fun _ _ _ h => h) (Or.inl ⟨by rfl, ?hy8⟩) (by assumption) ?rest8
  case hy8 => (intro w hSw; (try dsimp only at hSw); go_simp; try with_reducible rfl)
  try simp only [Act.put, List.setIfInBounds_toArray, List.set_cons_zero, List.set_cons_succ]
  refine takeH (i := 8) (v := ?vv9) rfl (by kernel_rfl) (by kernel_rfl) (by kernel_rfl) (fun _ _ _ h => h) (Or.inl ⟨by rfl, ?hy9⟩) (by assumption) ?rest9
  case hy9 => (intro w hSw; (try dsimp only at hSw); go_simp; try with_reducible rfl)
  try simp only [Act.put, List.setIfInBounds_toArray, List.set_cons_zero, List.set_cons_succ]
  refine takeH (i := 9) (v := ?vv10) rfl (by kernel_rfl) (by kernel_rfl) (by kernel_rfl) (fun _ _ _ h => h) (Or.inl ⟨by rfl, ?hy10⟩) (by assumption) ?rest10
  case hy10 => (intro w hSw; (try dsimp only at hSw); go_simp; try with_reducible rfl)
  try simp only [Act.put, List.setIfInBounds_toArray, List.set_cons_zero, List.set_cons_succ]
  refine takeH (i := 10) (v := ?vv11) rfl (by kernel_rfl) (by kernel_rfl) (by kernel_rfl) (fun _ _ _ h => h) (Or.inl ⟨by rfl, ?hy11⟩) (by assumption) ?rest11
  case hy11 => (intro w hSw; (try dsimp only at hSw); go_simp; try with_reducible rfl)
  try simp only [Act.put, List.setIfInBounds_toArray, List.set_cons_zero, List.set_cons_succ]
  refine takeH (i := 11) (v := .int .i64 ((Y.length - 1 : Nat) : Int)) rfl (by kernel_rfl) (by kernel_rfl) (by kernel_rfl) (fun _ _ _ h => h) (Or.inl ⟨by rfl, ?hy12⟩) (by assumption) ?rest12
  case hy12 => (intro w hSw; (try dsimp only at hSw); go_simp; try simp [*]; try omega)
  try simp only [Act.put, List.setIfInBounds_toArray, List.set_cons_zero, List.set_cons_succ]
  refine takeH (i := 12) (v := .pointer (some ⟨g2, o2 + (Y.length - 1) * 3, none⟩)) rfl (by kernel_rfl) (by kernel_rfl) (by kernel_rfl) (fun _ _ _ h => h) (Or.inl ⟨by rfl, ?hy13⟩) (by assumption) ?rest13
  case hy13 => (intro w hSw; (try dsimp only at hSw); go_simp; try simp [*]; try omega)
  try simp only [Act.put, List.setIfInBounds_toArray, List.set_cons_zero, List.set_cons_succ]
  refine takeH (i := 13) (v := ?vv14) rfl (by kernel_rfl) (by kernel_rfl) (by kernel_rfl) (fun _ _ _ h => h) (Or.inl ⟨by rfl, ?hy14⟩) (by assumption) ?rest14
  case hy14 => (intro w hSw; (try dsimp only at hSw); go_simp; try with_reducible rfl)
  try simp only [Act.put, List.setIfInBounds_toArray, List.set_cons_zero, List.set_cons_succ]
  refine takeH (i := 14) (v := ?vv15) rfl (by kernel_rfl) (by kernel_rfl) (by kernel_rfl) (fun _ _ _ h => h) (Or.inl ⟨by rfl, ?hy15⟩) (by assumption) ?rest15
  case hy15 => (intro w hSw; (try dsimp only at hSw); go_simp; try with_reducible rfl)
  try simp only [Act.put, List.setIfInBounds_toArray, List.set_cons_zero, List.set_cons_succ]
  refine doneH (i := 15) rfl (by kernel_rfl) (by rfl) (fun K hK => ?_)
  have HK : Hid _ := hK
  clear hK
  go_simp
  refine (hag _ hAd).mono ?_
  rintro e w7 ⟨rfl, hw7⟩
  subst hw7
  have hHd := hHeld
  clear hHeld
  refine HK.out _ _ hHd (fun hHeld => ?_)
  clear HK K hHd
  try simp only [Act.put, List.setIfInBounds_toArray, List.set_cons_zero, List.set_cons_succ]
  refine takeH (i := 16) (v := ?vv16) rfl (by kernel_rfl) (by kernel_rfl) (by kernel_rfl) (fun _ _ _ h => h) (Or.inl ⟨by rfl, ?hy16⟩) (by assumption) ?rest16
  case hy16 => (intro w hSw; (try dsimp only at hSw); go_simp; try with_reducible rfl)
  try simp only [Act.put, List.setIfInBounds_toArray, List.set_cons_zero, List.set_cons_succ]
  clear hHeld hag hAd k0 k1 hks hkw hkm hkm' hks2 hkw2 hkm2 hkm2'
  refine wpAnyH_done (by kernel_rfl) ?_ _
  obtain ⟨w6, hw6⟩ : ∃ w6, w5.drew = w6 := ⟨_, rfl⟩
  have hBw6 : Below w.heap.size w w6 := by rw [← hw6]; exact hBw5.drew
  have hc6 : w6.heap[w.heap.size + 1]? = some (.cells #[.slice (some ⟨gw, ow, none⟩) ws.length cw, .slice (some ⟨gq, oq, none⟩) ps.length cq, .slice none 0 0] 41 (0, 0)) := by rw [← hw6]; exact hc5
  have hr6 : w6.heap[w.heap.size]? = some (.cells #[.slice none 0 0, I64 0] 74 (0, 0)) := by rw [← hw6]; exact hr5
  have hz6 : w.heap.size + 1 < w6.heap.size := by rw [← hw6]; show _ < w5.heap.size; omega
  rw [hw6]
  clear hw6 hBw5 hc5 hr5 hB5 hz5 hB4 hz4 hBw4 hB3 hz3 hza
  cases qa
  rotate_left
  · have HE : Hid (judgeE ws ps L M = 10) := by show _ = _; rw [HE.out, HSE.out]; rfl
    have HG : Hid (judgeG ws ps L M = []) := by show _ = _; unfold judgeG; rw [HE.out]; rfl
    clear HSE
    obtain ⟨⟨z0, z1⟩, fz⟩ := HC.out w6 hr6
    have HR : Hid _ := hr6
    clear hr6
    go_wp2
    obtain ⟨y0, y1, hBf⟩ := HFIN.out w6 (.slice none 0 0) 0 hBw6 HR.out
    refine ⟨rfl, .tuple #[.agg #[.slice none 0 0, I64 0], .int .i64 10], ?_, ⟨_, by rw [HE.out, HG.out]; rfl, by rw [HG.out]; exact World.ownsRow_nil _ _ _ _⟩, hBf⟩
    simp only [results, Tryz.f117]
    simp [go_sem, y0, y1]
  have HE2 : Hid (judgeE ws ps L M = 0) := by show _ = _; rw [HE.out, HSE.out]; rfl
  have HG2 : Hid (judgeG ws ps L M = judgeL ws.length ps L M) := by show _ = _; unfold judgeG; rw [HE2.out]; rfl
  clear HE HG HSE
  go_wp2
  obtain ⟨W0, hW0⟩ : ∃ W0, w6.alloc (.cells #[.slice none 0 0, I64 0] 74) = W0 := ⟨_, rfl⟩
  have hB0 : Below w.heap.size w W0 := by rw [← hW0]; exact hBw6.alloc (by omega) _
  have hr0 : W0.heap[w.heap.size]? = some (.cells #[.slice none 0 0, I64 0] 74 (0, 0)) := by rw [← hW0, Below.heap_alloc _ _ _ (by omega)]; exact hr6
  have hc0 : W0.heap[w.heap.size + 1]? = some (.cells #[.slice (some ⟨gw, ow, none⟩) ws.length cw, .slice (some ⟨gq, oq, none⟩) ps.length cq, .slice none 0 0] 41 (0, 0)) := by rw [← hW0, Below.heap_alloc _ _ _ (by omega)]; exact hc6
  have hv0 : W0.heap[w6.heap.size]? = some (.cells #[.slice none 0 0, I64 0] 74 (0, 0)) := by rw [← hW0]; exact heap_alloc_new w6 _
  rw [hW0]
  clear hW0 hr6 hc6 hBw6
  obtain ⟨nv, hnv⟩ : ∃ n, w6.heap.size = n := ⟨_, rfl⟩
  rw [hnv] at hz6 hv0 ⊢
  clear hnv
  go_loopw [17] (fun ii wr => ∃ (k : Nat) (v : Value) (m : Int), k ≤ ws.length ∧ ii = .int .i64 k ∧ Below w.heap.size w wr ∧ wr.heap[w.heap.size]? = some (.cells #[.slice none 0 0, I64 0] 74 (0, 0)) ∧ wr.heap[w.heap.size + 1]? = some (.cells #[.slice (some ⟨gw, ow, none⟩) ws.length cw, .slice (some ⟨gq, oq, none⟩) ps.length cq, .slice none 0 0] 41 (0, 0)) ∧ wr.heap[nv]? = some (.cells #[v, I64 m] 74 (0, 0)) ∧ wr.ownsRow (nv + 1) 84 8 v (judgeL k ps L M).length (guRow (judgeL k ps L M)) ∧ 0 ≤ m ∧ m ≤ 100 * k ∧ Hid (wSum ws ((judgeL k ps L M).map (fun g => g.v)) = m)) (fun ii _ => ws.length - (intOf ii).toNat)
  case atStart => exact ⟨0, .slice none 0 0, 0, by omega, rfl, hB0, hr0, hc0, hv0, World.ownsRow_nil _ _ _ _, by omega, by omega, rfl⟩
  case round =>
    clear hB0 hr0 hc0 hv0
    obtain ⟨k, v, m, hk, rfl, hB, hr, hc, hv, hown, hm0, hm1, HM⟩ := hrel
    have hz := hB.size
    have hlv := (Array.getElem?_eq_some_iff.1 hv).1
    by_cases hlt : k < ws.length
    · have hlt' : (k : Int) < (ws.length : Int) := by omega
      have hR := MKR.out wr hB hc
      obtain ⟨y, hy⟩ : ∃ y, ws[k]?.getD 0 = y := ⟨_, rfl⟩
      have hcw0 := HCW.out k hlt
      rw [hy] at hcw0
      have hgw : gw < w.heap.size := World.block_lt_of_cell? w _ hcw0
      have hyb := hW.wAt (v := (k : Int)) (by simpa using hlt)
      unfold wAt at hyb
      simp only [Int.toNat_natCast, hy] at hyb
      have HS : Hid _ := judgeL_succ k ps L M
      have HY : Hid (wAt ws (k : Int) = y) := by show _ = _; unfold wAt; simp [hy]
      obtain ⟨G, hG⟩ : ∃ G, judgeL k ps L M = G := ⟨_, rfl⟩
      have hgl : G.length ≤ 12 := by rw [← hG]; exact Nat.le_trans (judgeL_length _ _ _ _) (by omega)
      rw [hG] at hown HM
      have HG : Hid (judgeL k ps L M = G) := hG
      clear hG hy
      have hgo := HAG.out k wr hR (HLX.out.below hB) (HLY.out.below hB)
      cases hgv : judgeV ps L M k with
      | none =>
        have HS' : Hid (judgeL (k + 1) ps L M = G) := by show _ = _; rw [HS.out, HG.out, hgv]; simp
        rw [hgv] at hgo
        clear HS hgv
        go_wp2_with fail
        refine hgo.mono ?_
        rintro e w3 ⟨rfl, hB3⟩
        clear hgo
        have hB4 : Below w.heap.size w w3 := hB.trans (hB3.mono hz)
        have hv3 := (hB3.block _ hlv).trans hv
        have hr3 := (hB3.block (w.heap.size) (by omega)).trans hr
        have hc3 := (hB3.block (w.heap.size + 1) (by omega)).trans hc
        have hown3 := row_below hown hB3 (Nat.le_refl _)
        have hz3 := hB3.size
        go_wp2
        go_roundw
        case rel => exact ⟨k + 1, v, m, by omega, by go_num, hB4.alloc hB4.size _, (Below.heap_alloc _ _ _ (by omega)).trans hr3, (Below.heap_alloc _ _ _ (by omega)).trans hc3, (Below.heap_alloc _ _ _ (by omega)).trans hv3, by rw [HS'.out]; exact hown3.alloc _, hm0, by omega, by rw [HS'.out]; exact HM⟩
        case measure => simp [intOf]; omega
      | some gu =>
        have hkp : 0 < gu.k := judgeV_pos hgv
        have hgu := (judgeV_some hgv).1
        have HS' : Hid (judgeL (k + 1) ps L M = G ++ [gu]) := by show _ = _; rw [HS.out, HG.out, hgv]; rfl
        have HM' : Hid (wSum ws ((G ++ [gu]).map (fun g => g.v)) = m + y) := by
          show _ = _
          rw [List.map_append]
          unfold wSum at HM ⊢
          rw [List.map_append, sumI_append, HM.out]
          simp only [List.map_cons, List.map_nil, sumI_cons, sumI_nil]
          rw [hgu, HY.out]; omega
        rw [hgv] at hgo
        clear HS hgv hgu
        have h63 : Hid (G.length + 1 ≤ maxLen) := by show _ ≤ _; unfold maxLen; omega
        obtain ⟨pG, cG, hvs⟩ := row_slice hown
        subst hvs
        go_wp2_with fail
        refine hgo.mono ?_
        rintro e w3 ⟨rfl, hB3⟩
        clear hgo
        have hB4 : Below w.heap.size w w3 := hB.trans (hB3.mono hz)
        have hv3 := (hB3.block _ hlv).trans hv
        have hr3 := (hB3.block (w.heap.size) (by omega)).trans hr
        have hc3 := (hB3.block (w.heap.size + 1) (by omega)).trans hc
        have hown3 := row_below hown hB3 (Nat.le_refl _)
        have hz3 := hB3.size
        have c0 : w3.cell? ⟨nv, 0, none⟩ = some (.slice pG G.length cG) := by rw [cell_of_heap hv3]; rfl
        have c1' : w3.cell? ⟨nv, 1, none⟩ = some (I64 m) := by rw [cell_of_heap hv3]; rfl
        have cz : ∀ o, w3.frozen? ⟨nv, o, none⟩ = false := fun o => frozen_of_heap hv3 o
        have hl3 : nv < w3.heap.size := by omega
        have HV3 : Hid _ := hv3
        have HR3 : Hid _ := hr3
        have HC3 : Hid _ := hc3
        have HR : Hid _ := hR
        clear hv3 hr3 hc3 hv hr hc hR
        go_wp2_with (at_builtin; refine wpList_append_own _ (by rfl) _ _ _ (by rfl) (nv + 1) 84 i0 (.agg #[I64 0, I64 0, I64 0, I64 0, I64 0, I64 0, I64 0, I64 0]) 8 64 Tryz.underlying72 hi hz0 hz1 hz2 rfl (by omega) _ G.length (guRow G) (by rfl) ((hown3.alloc _).alloc _) ⟨w3.heap.size + 1, 0, none⟩ 1 1 (guCells gu) (by rfl) (by rfl) (cells_two _ _ #[I64 gu.v, I64 gu.k, I64 gu.a.v, I64 gu.a.s, I64 gu.a.t, I64 gu.b.v, I64 gu.b.s, I64 gu.b.t] _) (by simp [guCells, Value.oneCell']) h63.out (by omega) (by simp; omega) ?_; intro v1 w1 hown1 hgrow1 hnil1; have hblk : ∀ q, q < nv + 1 → w1.heap[q]? = w3.heap[q]? := (fun q hq => (hgrow1.block q (by simp; omega) (fun e => by have := (hown3.lt q e.symm).1; omega)).trans ((Below.heap_alloc _ _ _ (by simp; omega)).trans (Below.heap_alloc _ _ _ (by omega)))); have d0 : w1.cell? ⟨nv, 0, none⟩ = some (.slice pG G.length cG) := (World.cell?_of_block (hblk nv (by omega))).trans c0; have d1 : w1.cell? ⟨nv, 1, none⟩ = some (I64 m) := (World.cell?_of_block (hblk nv (by omega))).trans c1'; have dz : ∀ o, w1.frozen? ⟨nv, o, none⟩ = false := (fun o => (World.frozen?_of_block (hblk nv (by omega))).trans (cz o)); have HBL : Hid (∀ q, q < nv + 1 → w1.heap[q]? = w3.heap[q]?) := hblk; clear hblk; obtain ⟨pN, cN, hvN⟩ := row_slice hown1; subst hvN)
        have hv1 : w1.heap[nv]? = some (.cells #[.slice pG G.length cG, I64 m] 74 (0, 0)) := (HBL.out nv (by omega)).trans HV3.out
        have hr1 : w1.heap[w.heap.size]? = some (.cells #[.slice none 0 0, I64 0] 74 (0, 0)) := (HBL.out w.heap.size (by omega)).trans HR3.out
        have hc1 : w1.heap[w.heap.size + 1]? = some (.cells #[.slice (some ⟨gw, ow, none⟩) ws.length cw, .slice (some ⟨gq, oq, none⟩) ps.length cq, .slice none 0 0] 41 (0, 0)) := (HBL.out (w.heap.size + 1) (by omega)).trans HC3.out
        have hB1 : Below w.heap.size w w1 := ((hB4.alloc (by omega) _).alloc (by simp; omega) _).grown hgrow1 (by simp; omega) (fun j e => by have := (hown3.lt j e).1; omega)
        have h1w : (w1.setCell ⟨nv, 0, none⟩ (.slice pN (G.length + 1) cN)).heap[nv]? = some (.cells #[.slice pN (G.length + 1) cN, I64 m] 74 (0, 0)) := heap_setCell_same _ nv 0 _ _ _ hv1
        have h2w := two_heap hv1 (.slice pN (G.length + 1) cN) (I64 (m + y))
        have hrow2 := row_setCell (b := nv) (row_setCell (b := nv) (row_low hown1) 0 (.slice pN (G.length + 1) cN) (fun e => by have := (hown1.lt _ e).1; omega)) 1 (I64 (m + y)) (fun e => by have := (hown1.lt _ e).1; omega)
        have hgy : (w1.setCell ⟨nv, 0, none⟩ (.slice pN (G.length + 1) cN)).cell? ⟨gw, ow + k, none⟩ = some (I64 y) := ((hB1.setCell (p := ⟨nv, 0, none⟩) (by dsimp only; omega) _).cell (p := ⟨gw, ow + k, none⟩) hgw).trans hcw0
        have hn1 : (w1.setCell ⟨nv, 0, none⟩ (.slice pN (G.length + 1) cN)).cell? ⟨nv, 1, none⟩ = some (I64 m) := by rw [cell_of_heap h1w]; rfl
        have hn0 : (w1.setCell ⟨nv, 0, none⟩ (.slice pN (G.length + 1) cN)).cell? ⟨nv, 0, none⟩ = some (.slice pN (G.length + 1) cN) := by rw [cell_of_heap h1w]; rfl
        have hnz : ∀ o, (w1.setCell ⟨nv, 0, none⟩ (.slice pN (G.length + 1) cN)).frozen? ⟨nv, o, none⟩ = false := fun o => frozen_of_heap h1w o
        have H2W : Hid _ := h2w
        have HV1 : Hid _ := hv1
        have HR1 : Hid _ := hr1
        have HC1 : Hid _ := hc1
        have HRO : Hid _ := hrow2
        clear d0 d1 dz h1w h2w hv1 hr1 hc1 hrow2 c0 c1' cz
        have HB1 : Hid (Below w.heap.size w ((w1.setCell ⟨nv, 0, none⟩ (.slice pN (G.length + 1) cN)).setCell ⟨nv, 1, none⟩ (I64 (m + y)))) := (hB1.setCell (p := ⟨nv, 0, none⟩) (by dsimp only; omega) _).setCell (p := ⟨nv, 1, none⟩) (by dsimp only; omega) _
        have HRR : Hid (((w1.setCell ⟨nv, 0, none⟩ (.slice pN (G.length + 1) cN)).setCell ⟨nv, 1, none⟩ (I64 (m + y))).heap[w.heap.size]? = some (.cells #[.slice none 0 0, I64 0] 74 (0, 0))) := by
          show _ = _
          rw [Below.heap_setCell _ _ _ _ (by dsimp only; omega), Below.heap_setCell _ _ _ _ (by dsimp only; omega)]; exact HR1.out
        have HCC : Hid (((w1.setCell ⟨nv, 0, none⟩ (.slice pN (G.length + 1) cN)).setCell ⟨nv, 1, none⟩ (I64 (m + y))).heap[w.heap.size + 1]? = some (.cells #[.slice (some ⟨gw, ow, none⟩) ws.length cw, .slice (some ⟨gq, oq, none⟩) ps.length cq, .slice none 0 0] 41 (0, 0))) := by
          show _ = _
          rw [Below.heap_setCell _ _ _ _ (by dsimp only; omega), Below.heap_setCell _ _ _ _ (by dsimp only; omega)]; exact HC1.out
        obtain ⟨wz, hwz⟩ : ∃ wz, w1.setCell ⟨nv, 0, none⟩ (.slice pN (G.length + 1) cN) = wz := ⟨_, rfl⟩
        rw [hwz] at hgy hn1 hn0 hnz H2W HB1 HRR HCC HRO ⊢
        clear hwz hB1 hB HV3 HR3 HC3 HBL
        go_region

        go_wp2
        go_roundw
        case rel =>
          refine ⟨k + 1, .slice pN (G.length + 1) cN, m + y, by omega, by go_num, HB1.out.drew, HRR.out, HCC.out, H2W.out, ?_, by omega, by omega, by rw [HS'.out]; exact HM'⟩
          rw [HS'.out, guRow_append, List.length_append]
          have hrow2 := HRO.out
          refine ⟨by simpa [guRow] using hrow2.1, ?_⟩
          rcases hrow2.2 with h9 | ⟨g, cap, cur, h9, _, h10⟩
          · exact .inl h9
          · exact .inr ⟨g, cap, cur, h9, (hown1.lt g (by rw [h9]; rfl)).1, ⟨h10.1, by simpa [guRow] using h10.2⟩⟩
        case measure => simp [intOf]; omega
    · have hkk : k = ws.length := by omega
      obtain ⟨pG, cG, hvs⟩ := row_slice hown
      subst hvs
      obtain ⟨G, hG⟩ : ∃ G, judgeL k ps L M = G := ⟨_, rfl⟩
      have hGn : judgeL ws.length ps L M = G := by rw [← hkk]; exact hG
      rw [hG] at hv hown HM
      have HGN : Hid (judgeL ws.length ps L M = G) := hGn
      have c0 : wr.cell? ⟨nv, 0, none⟩ = some (.slice pG G.length cG) := by rw [cell_of_heap hv]; rfl
      have c1' : wr.cell? ⟨nv, 1, none⟩ = some (I64 m) := by rw [cell_of_heap hv]; rfl
      obtain ⟨⟨z0, z1⟩, fz⟩ := HC.out wr hr
      have HR : Hid _ := hr
      clear hr hG hGn hkk hv
      go_wp2
      obtain ⟨y0, y1, hBf⟩ := HFIN.out wr (.slice pG G.length cG) m hB HR.out
      refine ⟨rfl, .tuple #[.agg #[.slice pG G.length cG, I64 m], .int .i64 0], ?_, ⟨_, by rw [HE2.out, HG2.out, HGN.out]; unfold guW; rw [HM.out], ?_⟩, hBf⟩
      · simp only [results, Tryz.f117]
        simp [go_sem, y0, y1]
      · rw [HG2.out, HGN.out]
        have hlt : w.heap.size < nv + 1 := by omega
        exact row_lower (row_set (row_set hown w.heap.size 0 _ hlt) w.heap.size 1 _ hlt) (by omega)
end Go.Proofs.YtgebcnnenhgkcaaGreat
/- What is lent to Judge: the links as Judge finds them, and which blocks they lie in. -/
namespace Go.Proofs.YtgebcnnenhgkcaaGreat
open Go.RowKit Go.Shelf

theorem DeepAt.low {w : World} {base base' : Nat} {vo va : Value} {D : List Dp} {T : List LkV} (h : DeepAt w base vo va D T) (hb : base' ≤ base) : DeepAt w base' vo va D T :=
  ⟨row_lower h.out hb, row_lower h.all hb, fun d hm => row_lower (h.each d hm) hb, h.ne1, h.ne2, h.ap⟩
theorem DeepAt.rng {w : World} {base : Nat} {vo va : Value} {D : List Dp} {T : List LkV} (h : DeepAt w base vo va D T) : (∀ k, (vo.ownBlock = some k ∨ ∃ d ∈ D, k = d.g) → base ≤ k ∧ k < w.heap.size) ∧ ∀ k, va.ownBlock = some k → base ≤ k ∧ k < w.heap.size := by
  refine ⟨fun k hk => ?_, fun k hk => h.all.lt k hk⟩
  rcases hk with hk | ⟨d, hd, rfl⟩
  · exact h.out.lt k hk
  · exact (h.each d hd).lt d.g rfl
/-- The lent links, as Judge finds them. -/
theorem DeepAt.links {w : World} {base : Nat} {vo va : Value} {D : List Dp} (h : DeepAt w base vo va D [spareL, spareL, spareL]) : ∃ g c, vo = .slice (some ⟨g, 0, none⟩) (D.length + 3) c ∧ D.length + 3 ≤ c ∧ c ≤ maxLen ∧ LkAt w (some ⟨g, 0, none⟩) (D.map Dp.o) := by
  have hl : (D.map Dp.o ++ [spareL, spareL, spareL]).length = D.length + 3 := by simp
  obtain ⟨g, cap, cur, h1, h2, h3, h4, h5⟩ := lv_cells (Z := D.map Dp.o ++ [spareL, spareL, spareL]) (by rw [hl]; exact h.out) (by rw [hl]; omega)
  rw [hl] at h1
  refine ⟨g, cap, h1, ?_, ?_, ?_, ?_⟩
  · rcases h.out.2 with ⟨h', _⟩ | ⟨g', cap', cur', h', _, _, hle, _⟩
    · rw [h1] at h'; cases h'
    · rw [h1] at h'
      simp only [Value.slice.injEq, Option.some.injEq, Addr.mk.injEq] at h'
      simp at hle; omega
  · rcases h.out.2 with ⟨h', _⟩ | ⟨g', cap', cur', h', _, _, _, hle, _⟩
    · rw [h1] at h'; cases h'
    · rw [h1] at h'
      simp only [Value.slice.injEq, Option.some.injEq, Addr.mk.injEq] at h'
      omega
  · refine .inr ⟨g, 0, rfl, fun j x hj => ?_⟩
    obtain ⟨c0, c1, c2⟩ := h5 j x (by rw [List.getElem?_append_left (List.getElem?_eq_some_iff.1 hj).1]; exact hj)
    rw [Nat.zero_add, cell_of_heap h3, cell_of_heap h3, cell_of_heap h3]
    exact ⟨c0, c1, c2⟩
  · intro x hx
    obtain ⟨d, hd, rfl⟩ := List.mem_map.1 hx
    obtain ⟨g', cap', he, hle, hm, hcs', _⟩ := row_open (xs := d.l.vs ++ [77, 77, 77]) (by simpa using row_low (h.each d hd)) (by simp)
    simp only [Dp.a, Value.slice.injEq, Option.some.injEq, Addr.mk.injEq, and_true] at he
    obtain ⟨rfl, _, rfl⟩ := he
    simp only [List.length_append, List.length_cons, List.length_nil] at hle
    exact ⟨_, _, rfl, IntsAt.take (ys := [77, 77, 77]) (.inr ⟨d.g, 0, rfl, fun j hj => by rw [Nat.zero_add]; exact hcs' j hj⟩), by simp only [Dp.o]; omega⟩
/-- A lent list of numbers, as Judge finds it. -/
theorem lent_open {w : World} {base g cap : Nat} {xs : List Int} (h : w.ownsRow base 3 1 (.slice (some ⟨g, 0, none⟩) (xs.length + 3) cap) (xs.length + 3) ((xs ++ [77, 77, 77]).map I64)) :
    xs.length + 3 ≤ cap ∧ cap ≤ maxLen ∧ (∀ j, j < (xs ++ [77, 77, 77]).length → w.cell? ⟨g, j, none⟩ = some (I64 ((xs ++ [77, 77, 77])[j]?.getD 0))) ∧ (∀ j, j < xs.length → w.cell? ⟨g, j, none⟩ = some (I64 (xs[j]?.getD 0))) ∧ ∃ cur, w.heap[g]? = some (.cells cur 3 (0, 0)) ∧ xs.length + 3 ≤ cur.size := by
  obtain ⟨g', cap', he, hle, hm, hcs, _⟩ := row_open (xs := xs ++ [77, 77, 77]) (by simpa using row_low h) (by simp)
  simp only [Value.slice.injEq, Option.some.injEq, Addr.mk.injEq, and_true] at he
  obtain ⟨rfl, _, rfl⟩ := he
  simp only [List.length_append, List.length_cons, List.length_nil] at hle
  refine ⟨by omega, hm, hcs, fun j hj => ?_, ?_⟩
  · rw [hcs j (by simp; omega), List.getElem?_append_left hj]
  · rcases h.2 with ⟨h', _⟩ | ⟨g', cap', cur, h', _, h3, _, _, hs, _⟩
    · cases h'
    · simp only [Value.slice.injEq, Option.some.injEq, Addr.mk.injEq, and_true] at h'
      obtain ⟨rfl, _, rfl⟩ := h'
      exact ⟨cur, h3, by omega⟩
theorem okW_le {ws : List Int} (h : okW ws = true) : ws.length ≤ 12 := by simp [okW] at h; omega
theorem numJ_at (k : Int) (w : World) : Calls Tryz.prog 42 #[.int .i64 k] w fun e w' => e = .returned (.int .i64 k) ∧ w' = w := by
  go_enter Tryz.func42, Tryz.ntmps42
  go_wp2
  go_ret
  exact ⟨rfl, rfl⟩
theorem judgeG_length (ws ps : List Int) (L M : List Lk) : (judgeG ws ps L M).length ≤ 12 := by
  unfold judgeG
  by_cases h : judgeE ws ps L M = 0
  · rw [if_pos h]
    have hk : okW ws = true := by
      cases e : okW ws with
      | true => rfl
      | false => exfalso; unfold judgeE at h; rw [if_pos e] at h; cases h
    exact Nat.le_trans (judgeL_length _ _ _ _) (okW_le hk)
  · rw [if_neg h]; simp
end Go.Proofs.YtgebcnnenhgkcaaGreat
