/- The document's own Court: Just, Last, Final. -/
import Derived.Test.YtgebcnnenhgkcaaGreatRefF
import Derived.Test.YtgebcnnenhgkcaaGreatFinalA
namespace Go.Proofs.YtgebcnnenhgkcaaGreat
open Go.RowKit

theorem isJust_far {ws ps : List Int} {vs : List Vt} (hT : Tree ps) {j : Nat} (hj : j < ps.length) : isJust ws ps vs j = decide (0 ≤ farOf (stAt (stepsC ws ps vs) j)) := by
  have hD : IsSteps (linkB ws vs) ps (stAt (stepsC ws ps vs)) := stepsL_is (linkB ws vs) hT
  have := hD.le j (by omega) (by simpa using hj)
  unfold isJust farOf
  by_cases e : stAt (stepsC ws ps vs) j = 40
  · rw [if_pos e]; simp [e]
  · rw [if_neg e]
    have e1 : (stAt (stepsC ws ps vs) j != 40) = true := by simpa using e
    rw [e1, decide_eq_true this.1]

set_option maxRecDepth 100000 in
set_option maxHeartbeats 2000000 in
theorem refJust_at (b : Nat) (S : Nat → Prop) (ws ps : List Int) (vs : List Vt) (wv pv vv : Value) (w : World) (h : RefAt w b S ws ps vs wv pv vv) (hT : Tree ps) (hW : OkWs ws) (hl : vs.length ≤ 300) (hO : OkV ws.length ps vs) :
    Calls Tryz.prog 75 #[.pointer (some ⟨b, 0, none⟩)] w fun e w' => (∃ v, e = .returned v ∧ w'.ownsRow w.heap.size 3 1 v (justL ws ps vs).length ((justL ws ps vs).map I64)) ∧ Below w.heap.size w w' := by
  obtain ⟨i0, hi, hz0, hz1, hz2⟩ := info_parts info_int
  have hlen : ps.length ≤ 40 := hT.2.1
  go_enter Tryz.func75, Tryz.ntmps75
  go_wp2_with fail
  refine (refFar_at b S ws ps vs _ _ _ _ h hT hW hl hO).mono ?_
  rintro e w1 ⟨⟨g, A, rfl, hg, hN, hsz, hA⟩, hB1⟩
  have hgl := hN.lt
  have HA : Hid (∀ j, j < ps.length → isJust ws ps vs j = decide (0 ≤ A[j]!)) := fun j hj => by rw [hA j hj]; exact isJust_far hT hj
  clear hA
  go_wp2
  go_loopw [4, 5] (fun v i wr => ∃ k : Nat, k ≤ ps.length ∧ i = .int .i64 k ∧ Below w1.heap.size w1 wr ∧ wr.ownsRow w1.heap.size 3 1 v (justN ws ps vs k).length ((justN ws ps vs k).map I64)) (fun _ i _ => ps.length - (intOf i).toNat)
  case atStart => exact ⟨0, by omega, rfl, Below.refl _ _, World.ownsRow_nil _ _ _ _⟩
  case round =>
    obtain ⟨k, hk, rfl, hB, hown⟩ := hrel
    have hz := hB.size
    by_cases hlt : k < ps.length
    · have hlt' : (k : Int) < (ps.length : Int) := by omega
      obtain ⟨x, hx⟩ : ∃ x, A[k]! = x := ⟨_, rfl⟩
      have hc : wr.cell? ⟨g, k, none⟩ = some (I64 x) := by
        rw [← hx]; exact ((hN.below hB hgl).cell (j := k) (by omega)).1
      have HJ : Hid (isJust ws ps vs k = decide (0 ≤ x)) := by show _ = _; rw [← hx]; exact HA.out k hlt
      have HS : Hid _ := justN_succ ws ps vs k
      have hnk := justN_length ws ps vs k
      clear hx
      obtain ⟨Z, hZ⟩ : ∃ Z, justN ws ps vs k = Z := ⟨_, rfl⟩
      rw [hZ] at hown hnk
      have HZ : Hid (justN ws ps vs k = Z) := hZ
      clear hZ
      by_cases h40 : 0 ≤ x
      · have HS' : Hid (justN ws ps vs (k + 1) = Z ++ [(k : Int)]) := by show _ = _; rw [HS.out, HZ.out, HJ.out]; simp [h40]
        clear HJ HS
        have h63 : Hid (Z.length + 1 ≤ maxLen) := by show _ ≤ _; unfold maxLen; omega
        go_wp2_with (at_builtin; refine wpList_append_own _ (by rfl) _ _ _ (by rfl) w1.heap.size 3 i0 (I64 0) 1 8 Tryz.underlying22 hi hz0 hz1 hz2 rfl (by omega) _ Z.length (Z.map I64) (by rfl) (hown.alloc _) ⟨wr.heap.size, 0, none⟩ 1 1 [I64 k] (by rfl) (by rfl) (cell_one_new _ _ _) (by simp [Value.oneCell']) h63.out (by omega) (by simp; omega) ?_; intro v1 w2 hown1 hgrow1 hnil1)
        go_roundw
        case rel => exact ⟨k + 1, by omega, by go_num, (hB.alloc hz _).grown hgrow1 (by simp; omega) (fun j e => (hown.lt j e).1), by rw [HS'.out, List.map_append, List.length_append]; exact hown1⟩
        case measure => simp [intOf]; omega
      · have HS' : Hid (justN ws ps vs (k + 1) = Z) := by show _ = _; rw [HS.out, HZ.out, HJ.out]; simp [h40]
        clear HJ HS
        go_wp2
        go_roundw
        case rel => exact ⟨k + 1, by omega, by go_num, hB, by rw [HS'.out]; exact hown⟩
        case measure => simp [intOf]; omega
    · have hk' : k = ps.length := by omega
      subst hk'
      go_wp2
      go_ret
      exact ⟨⟨_, rfl, row_lower hown hB1.size⟩, hB1.trans (hB.mono hB1.size)⟩

set_option maxRecDepth 100000 in
set_option maxHeartbeats 2000000 in
theorem refLast_at (b : Nat) (S : Nat → Prop) (ws ps : List Int) (vs : List Vt) (wv pv vv : Value) (a : Int) (w : World) (h : RefAt w b S ws ps vs wv pv vv) (hT : Tree ps) (hW : OkWs ws) (hl : vs.length ≤ 300) (hO : OkV ws.length ps vs) :
    Calls Tryz.prog 80 #[.pointer (some ⟨b, 0, none⟩), .int .i64 a] w fun e w' => e = .returned (.bool (childF ws ps vs a).isSome) ∧ Below w.heap.size w w' := by
  have h1 := h.c1
  have hbl := h.lt b h.inb
  have hlen : ps.length ≤ 40 := hT.2.1
  have hpos := hT.1
  obtain ⟨g0, cap0, rfl, _, _, hcs, _⟩ := row_open h.prow hT.1
  have hgl : g0 < w.heap.size := World.block_lt_of_cell? w _ (hcs 0 hT.1)
  have HCS : Hid (∀ j, j < ps.length → w.cell? ⟨g0, j, none⟩ = some (I64 (ps[j]?.getD 0))) := hcs
  clear hcs
  go_enter Tryz.func80, Tryz.ntmps80
  go_wp2
  go_loopw [5] (fun i wr => ∃ k : Nat, 1 ≤ k ∧ k ≤ ps.length ∧ i = .int .i64 k ∧ Below w.heap.size w wr ∧ Hid (childN ws ps vs a k = none)) (fun i _ => ps.length - (intOf i).toNat)
  case atStart => exact ⟨1, by omega, by omega, rfl, Below.refl _ _, by show _ = _; rw [childN_succ ws ps vs a 0 rfl]; rfl⟩
  case round =>
    obtain ⟨k, hk1, hk, rfl, hB, hno⟩ := hrel
    have r1 : wr.cell? ⟨b, 1, none⟩ = some (.slice (some ⟨g0, 0, none⟩) ps.length cap0) := (hB.cell (p := ⟨b, 1, none⟩) hbl).trans h1
    by_cases hlt : k < ps.length
    · have hlt' : (k : Int) < (ps.length : Int) := by omega
      obtain ⟨p, hp⟩ : ∃ p, ps[k]?.getD 0 = p := ⟨_, rfl⟩
      have hc : wr.cell? ⟨g0, k, none⟩ = some (I64 p) := by rw [← hp]; exact (hB.cell (p := ⟨g0, k, none⟩) hgl).trans (HCS.out k hlt)
      have HN := childN_succ ws ps vs a k hno.out
      have hch : isChild ws ps vs a k = ((p == a) && linkB ws vs a k) := by
        unfold isChild
        have e1 : ((k : Int) != 0) = true := by simp; omega
        rw [e1, Int.toNat_natCast, hp]; rfl
      rw [hch] at HN
      clear hch hp
      have hC := h.kept (Chg.of_below (fun _ => False) hB) (fun _ _ hf => hf)
      by_cases e1 : p = a
      · have q1 : (p != a) = false := by simpa using e1
        have q2 : (p == a) = true := by simpa using e1
        rw [q2] at HN
        have HN' : Hid _ := HN
        clear HN e1
        go_wp2_with fail
        refine (refLinked_at b S ws ps vs _ _ _ a k _ hC hW hl hO).mono ?_
        rintro e w4 ⟨rfl, hB4⟩
        have hB5 : Below w.heap.size w w4 := hB.trans (hB4.mono hB.size)
        cases hlk : linkB ws vs a k
        · have HN2 : Hid (childN ws ps vs a (k + 1) = none) := by show _ = _; rw [HN'.out, hlk]; rfl
          clear hlk HN'
          go_wp2
          go_roundw
          case rel => exact ⟨k + 1, by omega, by omega, by go_num, hB5, HN2⟩
          case measure => simp [intOf]; omega
        · have HN2 : Hid (childF ws ps vs a = some (k : Int)) := by
            show _ = _
            exact childN_some (k := k + 1) (by rw [HN'.out, hlk]; rfl) (by omega)
          clear hlk HN'
          go_wp2
          go_ret
          exact ⟨by rw [HN2.out]; rfl, hB5⟩
      · have q1 : (p != a) = true := by simpa using e1
        have q2 : (p == a) = false := by simpa using e1
        rw [q2] at HN
        have HN2 : Hid (childN ws ps vs a (k + 1) = none) := HN
        clear HN e1
        go_wp2
        go_roundw
        case rel => exact ⟨k + 1, by omega, by omega, by go_num, hB, HN2⟩
        case measure => simp [intOf]; omega
    · have hk' : k = ps.length := by omega
      subst hk'
      go_wp2
      go_ret
      have : childF ws ps vs a = none := hno.out
      exact ⟨by rw [this]; rfl, hB⟩

set_option maxRecDepth 100000 in
set_option maxHeartbeats 2000000 in
theorem refFinal_at (b : Nat) (S : Nat → Prop) (ws ps : List Int) (vs : List Vt) (wv pv vv : Value) (w : World) (h : RefAt w b S ws ps vs wv pv vv) (hT : Tree ps) (hW : OkWs ws) (hl : vs.length ≤ 300) (hO : OkV ws.length ps vs) :
    Calls Tryz.prog 76 #[.pointer (some ⟨b, 0, none⟩)] w fun e w' => (∃ v, e = .returned v ∧ w'.ownsRow w.heap.size 3 1 v (finalL ws ps vs).length ((finalL ws ps vs).map I64)) ∧ Below w.heap.size w w' := by
  obtain ⟨i0, hi, hz0, hz1, hz2⟩ := info_parts info_int
  have hlen : ps.length ≤ 40 := hT.2.1
  go_enter Tryz.func76, Tryz.ntmps76
  go_wp2_with fail
  refine (refJust_at b S ws ps vs _ _ _ _ h hT hW hl hO).mono ?_
  rintro e w1 ⟨⟨v, rfl, hrow⟩, hB1⟩
  obtain ⟨vp, vc, hvv⟩ : ∃ vp vc, v = .slice vp (justL ws ps vs).length vc := by
    rcases hrow.2 with ⟨h', h''⟩ | ⟨g, cap, cur, h', _⟩
    · exact ⟨none, 0, by rw [h', h'']⟩
    · exact ⟨_, _, h'⟩
  subst hvv
  have hjl : (justL ws ps vs).length ≤ ps.length := justN_length ws ps vs ps.length
  obtain ⟨l, hll⟩ : ∃ l, justL ws ps vs = l := ⟨_, rfl⟩
  have HLL : Hid (justL ws ps vs = l) := hll
  rw [hll] at hrow hjl ⊢
  clear hll
  go_wp2
  go_loopw [4, 5] (fun v i wr => ∃ k : Nat, k ≤ l.length ∧ i = .int .i64 k ∧ Below w1.heap.size w1 wr ∧ wr.ownsRow w1.heap.size 3 1 v ((l.take k).filter (fun x => (childF ws ps vs x).isSome)).length (((l.take k).filter (fun x => (childF ws ps vs x).isSome)).map I64)) (fun _ i _ => l.length - (intOf i).toNat)
  case atStart => exact ⟨0, by omega, rfl, Below.refl _ _, World.ownsRow_nil _ _ _ _⟩
  case round =>
    obtain ⟨k, hk, rfl, hB, hown⟩ := hrel
    have hz := hB.size
    by_cases hlt : k < l.length
    · have hlt' : (k : Int) < (l.length : Int) := by omega
      obtain ⟨gl, capl, hgl, _, _, hcl, _⟩ := row_open (row_low hrow) (by omega)
      simp only [Value.slice.injEq, true_and] at hgl
      obtain ⟨rfl, rfl⟩ := hgl
      obtain ⟨y, hy⟩ : ∃ y, l[k]? = some y := ⟨_, List.getElem?_eq_getElem hlt⟩
      have hgll : gl < w1.heap.size := World.block_lt_of_cell? w1 _ (hcl k hlt)
      have hc : wr.cell? ⟨gl, k, none⟩ = some (I64 y) := by rw [hB.cell (p := ⟨gl, k, none⟩) hgll, hcl k hlt, hy]; rfl
      have hC := h.kept (Chg.of_below (fun _ => False) (hB1.trans (hB.mono hB1.size))) (fun _ _ hf => hf)
      have HS : Hid ((l.take (k + 1)).filter (fun x => (childF ws ps vs x).isSome) = (l.take k).filter (fun x => (childF ws ps vs x).isSome) ++ (if (childF ws ps vs y).isSome = true then [y] else [])) := by
        show _ = _
        rw [List.take_add_one, hy]
        by_cases e : (childF ws ps vs y).isSome = true
        · simp [List.filter_append, e]
        · simp [List.filter_append, e]
      clear hcl hy
      obtain ⟨z, hzz⟩ : ∃ z, (l.take k).filter (fun x => (childF ws ps vs x).isSome) = z := ⟨_, rfl⟩
      have hnk : z.length ≤ k := by
        rw [← hzz]; exact Nat.le_trans (List.length_filter_le _ _) (by simp; omega)
      rw [hzz] at hown
      have HZ : Hid ((l.take k).filter (fun x => (childF ws ps vs x).isSome) = z) := hzz
      clear hzz
      go_wp2_with fail
      refine (refLast_at b S ws ps vs _ _ _ y wr hC hT hW hl hO).mono ?_
      rintro e w3 ⟨rfl, hB3⟩
      have hown3 := row_below hown hB3 (Nat.le_refl _)
      have hB4 : Below w1.heap.size w1 w3 := hB.trans (hB3.mono hz)
      have hz4 := hB4.size
      have hc3 : w3.cell? ⟨gl, k, none⟩ = some (I64 y) := (hB3.cell (p := ⟨gl, k, none⟩) (by dsimp only; omega)).trans hc
      cases hch : (childF ws ps vs y).isSome
      · have HS' : Hid ((l.take (k + 1)).filter (fun x => (childF ws ps vs x).isSome) = z) := by show _ = _; rw [HS.out, hch, HZ.out]; simp
        clear HS hch
        go_wp2
        go_roundw
        case rel => exact ⟨k + 1, by omega, by go_num, hB4, by rw [HS'.out]; exact hown3⟩
        case measure => simp [intOf]; omega
      · have HS' : Hid ((l.take (k + 1)).filter (fun x => (childF ws ps vs x).isSome) = z ++ [y]) := by show _ = _; rw [HS.out, hch, HZ.out]; simp
        clear HS hch
        have h63 : Hid (z.length + 1 ≤ maxLen) := by show _ ≤ _; unfold maxLen; omega
        go_wp2_with (at_builtin; refine wpList_append_own _ (by rfl) _ _ _ (by rfl) w1.heap.size 3 i0 (I64 0) 1 8 Tryz.underlying22 hi hz0 hz1 hz2 rfl (by omega) _ z.length (z.map I64) (by rfl) (hown3.alloc _) ⟨w3.heap.size, 0, none⟩ 1 1 [I64 y] (by rfl) (by rfl) (cell_one_new _ _ _) (by simp [Value.oneCell']) h63.out (by omega) (by simp; omega) ?_; intro v1 w2 hown1 hgrow1 hnil1)
        go_roundw
        case rel => exact ⟨k + 1, by omega, by go_num, (hB4.alloc hz4 _).grown hgrow1 (by simp; omega) (fun j e => (hown3.lt j e).1), by rw [HS'.out, List.map_append, List.length_append]; exact hown1⟩
        case measure => simp [intOf]; omega
    · have hk' : k = l.length := by omega
      subst hk'
      rw [List.take_length] at hown
      go_wp2
      go_ret
      unfold finalL
      rw [HLL.out]
      exact ⟨⟨_, rfl, row_lower hown hB1.size⟩, hB1.trans (hB.mono hB1.size)⟩
end Go.Proofs.YtgebcnnenhgkcaaGreat
