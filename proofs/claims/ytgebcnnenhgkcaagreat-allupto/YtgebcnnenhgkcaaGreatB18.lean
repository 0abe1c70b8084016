/- The document's own Court: Height, Kind. -/
import Derived.Test.YtgebcnnenhgkcaaGreatB17
import Derived.Test.YtgebcnnenhgkcaaGreatB09
import Derived.Test.YtgebcnnenhgkcaaGreatB12
import Derived.Test.YtgebcnnenhgkcaaGreatB16
namespace Go.Proofs.YtgebcnnenhgkcaaGreat
open Go.RowKit

theorem ht_zero (ps : List Int) : ht ps 0 = 0 := rfl
theorem ht_step {ps : List Int} (hT : Tree ps) {b : Int} (h0 : 0 < b) (hl : b.toNat < ps.length) : ht ps b = ht ps (ps[b.toNat]?.getD 0) + 1 := by
  unfold ht; rw [up_step hT h0 hl]; simp

theorem refHeight_at (b g cap : Nat) (ps : List Int) (hT : Tree ps) (k : Int) (hk0 : 0 ≤ k) (hk1 : k.toNat < ps.length) (w : World) (hA : TreeAt w b 1 g cap ps) :
    Calls Tryz.prog 155 #[.pointer (some ⟨b, 0, none⟩), .int .i64 k] w fun e w' => e = .returned (.int .i64 (ht ps k)) ∧ w' = w := by
  have hlen : ps.length ≤ 40 := hT.2.1
  have hpv := hA.pv
  have hb := ht_bounds hT hk0 hk1
  go_enter Tryz.func155, Tryz.ntmps155
  go_wp2
  go_loop [1, 5] (fun p c => ∃ (x : Int) (n : Int), p = .int .i64 x ∧ c = .int .i64 n ∧ 0 ≤ x ∧ x.toNat < ps.length ∧ 0 ≤ n ∧ n ≤ 40 - x ∧ Hid (ht ps k = n + ht ps x)) (fun p _ => (intOf p).toNat)
  case atStart => exact ⟨k, 0, rfl, rfl, hk0, hk1, by omega, by omega, by show _ = _; omega⟩
  case round =>
    obtain ⟨x, n, rfl, rfl, hx0, hx1, hn0, hn1, hah⟩ := hrel
    by_cases hx : x = 0
    · subst hx
      go_wp2
      go_ret
      exact ⟨by rw [hah.out, ht_zero, Int.add_zero]; rfl, rfl⟩
    · have hxp : 0 < x := by omega
      have hxb : (x != 0) = true := by simpa using hx
      obtain ⟨p, hpe⟩ : ∃ p, ps[x.toNat]?.getD 0 = p := ⟨_, rfl⟩
      have hcx : w.cell? ⟨g, x.toNat, none⟩ = some (.int .i64 p) := by rw [← hpe]; exact hA.cs _ hx1
      have hpr := hT.2.2.2 x.toNat (by omega) hx1
      rw [hpe] at hpr
      have HS : Hid (ht ps x = ht ps p + 1) := by show _ = _; rw [← hpe]; exact ht_step hT hxp hx1
      clear hpe
      go_wp2
      go_round
      case rel => exact ⟨p, n + 1, rfl, by go_num, by omega, by omega, by omega, by omega, by show _ = _; rw [hah.out, HS.out]; omega⟩
      case measure => simp [intOf]; omega

set_option maxRecDepth 100000 in
set_option maxHeartbeats 2000000 in
theorem refKind_at (b g cap : Nat) (ps : List Int) (hT : Tree ps) (x y : Vt) (hv : x.v = y.v) (hx : OkB ps x) (hy : OkB ps y) (w : World) (hA : TreeAt w b 1 g cap ps) :
    Calls Tryz.prog 134 #[.pointer (some ⟨b, 0, none⟩), x.val, y.val] w fun e w' => e = .returned (.int .i64 (kindI ps x y)) ∧ Below w.heap.size w w' := by
  have hlb := hA.lt_b
  have hlg := hA.lt_g hT.1
  have q1 : (x.v == y.v) = true := by simpa using hv
  have hB0 : Below w.heap.size w ((w.alloc (.cells #[I64 x.v, I64 x.s, I64 x.t] 47)).alloc (.cells #[I64 y.v, I64 y.s, I64 y.t] 47)) := ((Below.refl _ w).alloc (Nat.le_refl _) _).alloc (by simp) _
  have hA0 := hA.below hB0 hlb hlg
  have heights : ∀ (k : Int), 0 ≤ k → k.toNat < ps.length → Calls Tryz.prog 155 #[.pointer (some ⟨b, 0, none⟩), .int .i64 k] ((w.alloc (.cells #[I64 x.v, I64 x.s, I64 x.t] 47)).alloc (.cells #[I64 y.v, I64 y.s, I64 y.t] 47)) fun e w' => e = .returned (.int .i64 (ht ps k)) ∧ w' = ((w.alloc (.cells #[I64 x.v, I64 x.s, I64 x.t] 47)).alloc (.cells #[I64 y.v, I64 y.s, I64 y.t] 47)) := fun k h0 h1 => refHeight_at b g cap ps hT k h0 h1 _ hA0
  have c1 := heights x.s hx.s0 hx.s1
  have c2 := heights x.t hx.t0 hx.t1
  have c3 := heights y.s hy.s0 hy.s1
  have c4 := heights y.t hy.t0 hy.t1
  obtain ⟨a1, ha1⟩ : ∃ z, ht ps x.s = z := ⟨_, rfl⟩
  obtain ⟨a2, ha2⟩ : ∃ z, ht ps x.t = z := ⟨_, rfl⟩
  obtain ⟨a3, ha3⟩ : ∃ z, ht ps y.s = z := ⟨_, rfl⟩
  obtain ⟨a4, ha4⟩ : ∃ z, ht ps y.t = z := ⟨_, rfl⟩
  rw [ha1] at c1
  rw [ha2] at c2
  rw [ha3] at c3
  rw [ha4] at c4
  have HK : Hid (x.is y = false → kindI ps x y = if a2 = a4 then 1 else if (a1 < a3 ∧ a4 < a2) ∨ (a3 < a1 ∧ a2 < a4) then 2 else 0) := by
    show _ → _
    intro he
    unfold kindI
    rw [he, ha1, ha2, ha3, ha4]; simp
  clear ha1 ha2 ha3 ha4 heights hA0
  have HV : Hid (x.v = y.v) := hv
  clear hv
  cases q2 : (x.s == y.s)
  · have HE : Hid (x.is y = false) := by show _ = _; unfold Vt.is; rw [q1, q2]; rfl
    go_enter Tryz.func134, Tryz.ntmps134
    go_wp2_with fail
    refine c1.mono ?_
    rintro e w1 ⟨rfl, rfl⟩
    go_wp2_with fail
    refine c2.mono ?_
    rintro e w1 ⟨rfl, rfl⟩
    go_wp2_with fail
    refine c3.mono ?_
    rintro e w1 ⟨rfl, rfl⟩
    go_wp2_with fail
    refine c4.mono ?_
    rintro e w1 ⟨rfl, rfl⟩
    clear c1 c2 c3 c4
    by_cases h1 : a2 = a4
    · have p1 : (a2 == a4) = true := by simpa using h1
      have HR : Hid (kindI ps x y = 1) := by show _ = _; rw [HK.out HE.out, if_pos h1]
      clear h1 HK
      go_wp2
      go_ret
      exact ⟨by rw [HR.out]; rfl, hB0⟩
    · have p1 : (a2 == a4) = false := by simpa using h1
      have HK2 : Hid (kindI ps x y = if (a1 < a3 ∧ a4 < a2) ∨ (a3 < a1 ∧ a2 < a4) then 2 else 0) := by show _ = _; rw [HK.out HE.out, if_neg h1]
      have hne : a4 < a2 ∨ a2 < a4 := by omega
      clear HK h1
      rcases hne with h2 | h2
      · have h3 : ¬ a2 < a4 := by omega
        by_cases h4 : a1 < a3
        · have h5 : ¬ a3 < a1 := by omega
          have HR : Hid (kindI ps x y = 2) := by show _ = _; rw [HK2.out, if_pos (.inl ⟨h4, h2⟩)]
          clear HK2
          go_wp2
          go_ret
          exact ⟨by rw [HR.out]; rfl, hB0⟩
        · have HR : Hid (kindI ps x y = 0) := by show _ = _; rw [HK2.out, if_neg (by omega)]
          clear HK2
          by_cases h5 : a3 < a1
          all_goals
            go_wp2
            go_ret
            exact ⟨by rw [HR.out]; rfl, hB0⟩
      · have h3 : ¬ a4 < a2 := by omega
        by_cases h4 : a3 < a1
        · have h5 : ¬ a1 < a3 := by omega
          have HR : Hid (kindI ps x y = 2) := by show _ = _; rw [HK2.out, if_pos (.inr ⟨h4, h2⟩)]
          clear HK2
          go_wp2
          go_ret
          exact ⟨by rw [HR.out]; rfl, hB0⟩
        · have HR : Hid (kindI ps x y = 0) := by show _ = _; rw [HK2.out, if_neg (by omega)]
          clear HK2
          by_cases h5 : a1 < a3
          all_goals
            go_wp2
            go_ret
            exact ⟨by rw [HR.out]; rfl, hB0⟩
  · cases q3 : (x.t == y.t)
    · have HE : Hid (x.is y = false) := by show _ = _; unfold Vt.is; rw [q1, q2, q3]; rfl
      go_enter Tryz.func134, Tryz.ntmps134
      go_wp2_with fail
      refine c1.mono ?_
      rintro e w1 ⟨rfl, rfl⟩
      go_wp2_with fail
      refine c2.mono ?_
      rintro e w1 ⟨rfl, rfl⟩
      go_wp2_with fail
      refine c3.mono ?_
      rintro e w1 ⟨rfl, rfl⟩
      go_wp2_with fail
      refine c4.mono ?_
      rintro e w1 ⟨rfl, rfl⟩
      clear c1 c2 c3 c4
      by_cases h1 : a2 = a4
      · have p1 : (a2 == a4) = true := by simpa using h1
        have HR : Hid (kindI ps x y = 1) := by show _ = _; rw [HK.out HE.out, if_pos h1]
        clear h1 HK
        go_wp2
        go_ret
        exact ⟨by rw [HR.out]; rfl, hB0⟩
      · have p1 : (a2 == a4) = false := by simpa using h1
        have HK2 : Hid (kindI ps x y = if (a1 < a3 ∧ a4 < a2) ∨ (a3 < a1 ∧ a2 < a4) then 2 else 0) := by show _ = _; rw [HK.out HE.out, if_neg h1]
        have hne : a4 < a2 ∨ a2 < a4 := by omega
        clear HK h1
        rcases hne with h2 | h2
        · have h3 : ¬ a2 < a4 := by omega
          by_cases h4 : a1 < a3
          · have h5 : ¬ a3 < a1 := by omega
            have HR : Hid (kindI ps x y = 2) := by show _ = _; rw [HK2.out, if_pos (.inl ⟨h4, h2⟩)]
            clear HK2
            go_wp2
            go_ret
            exact ⟨by rw [HR.out]; rfl, hB0⟩
          · have HR : Hid (kindI ps x y = 0) := by show _ = _; rw [HK2.out, if_neg (by omega)]
            clear HK2
            by_cases h5 : a3 < a1
            all_goals
              go_wp2
              go_ret
              exact ⟨by rw [HR.out]; rfl, hB0⟩
        · have h3 : ¬ a4 < a2 := by omega
          by_cases h4 : a3 < a1
          · have h5 : ¬ a1 < a3 := by omega
            have HR : Hid (kindI ps x y = 2) := by show _ = _; rw [HK2.out, if_pos (.inr ⟨h4, h2⟩)]
            clear HK2
            go_wp2
            go_ret
            exact ⟨by rw [HR.out]; rfl, hB0⟩
          · have HR : Hid (kindI ps x y = 0) := by show _ = _; rw [HK2.out, if_neg (by omega)]
            clear HK2
            by_cases h5 : a1 < a3
            all_goals
              go_wp2
              go_ret
              exact ⟨by rw [HR.out]; rfl, hB0⟩
    · have HE : Hid (kindI ps x y = 0) := by show _ = _; unfold kindI; rw [if_pos (by unfold Vt.is; rw [q1, q2, q3]; rfl)]
      go_enter Tryz.func134, Tryz.ntmps134
      go_wp2
      go_ret
      exact ⟨by rw [HE.out]; rfl, hB0⟩
end Go.Proofs.YtgebcnnenhgkcaaGreat
/- The document's own Court: guilt, Guilty. -/
namespace Go.Proofs.YtgebcnnenhgkcaaGreat
open Go.RowKit

theorem ofV_drop {vs : List Vt} {i : Nat} {x : Vt} (u : Int) (h : vs[i]? = some x) : ofV (vs.drop i) u = if x.v = u then x :: ofV (vs.drop (i + 1)) u else ofV (vs.drop (i + 1)) u := by
  have hlt : i < vs.length := (List.getElem?_eq_some_iff.1 h).1
  rw [List.drop_eq_getElem_cons hlt]
  have : vs[i] = x := (List.getElem?_eq_some_iff.1 h).2
  rw [this]
  unfold ofV
  by_cases e : x.v = u
  · rw [if_pos e, List.filter_cons, if_pos (by simpa using e)]
  · rw [if_neg e, List.filter_cons, if_neg (by simpa using e)]
theorem kindI_pos (ps : List Int) (x y : Vt) : 0 ≤ kindI ps x y := by
  unfold kindI
  split
  · omega
  · split
    · omega
    · split <;> omega

set_option maxRecDepth 100000 in
set_option maxHeartbeats 8000000 in
theorem refGuilt_at (b : Nat) (S : Nat → Prop) (ws ps : List Int) (vs : List Vt) (wv pv vv : Value) (u : Int) (w : World) (h : RefAt w b S ws ps vs wv pv vv) (hT : Tree ps) (hl : vs.length ≤ 300) (hO : OkV ws.length ps vs) :
    Calls Tryz.prog 107 #[.pointer (some ⟨b, 0, none⟩), .int .i64 u] w fun e w' => e = .returned (guV (guiltV ps vs u)) ∧ Below w.heap.size w w' := by
  have hBa : Below w.heap.size w (w.alloc (.cells #[I64 0, I64 0, I64 0, I64 0, I64 0, I64 0, I64 0, I64 0] 84)) := (Below.refl _ w).alloc (Nat.le_refl _) _
  have ha := h.kept (Chg.of_below (fun _ => False) hBa) (fun _ _ hf => hf)
  go_enter Tryz.func107, Tryz.ntmps107
  go_wp2
  obtain ⟨w1, hw1⟩ : ∃ wa, w.alloc (.cells #[I64 0, I64 0, I64 0, I64 0, I64 0, I64 0, I64 0, I64 0] 84) = wa := ⟨_, rfl⟩
  have hr1 : w1.heap[w.heap.size]? = some (.cells #[I64 0, I64 0, I64 0, I64 0, I64 0, I64 0, I64 0, I64 0] 84 (0, 0)) := by rw [← hw1]; exact heap_alloc_new w _
  have hza : w1.heap.size = w.heap.size + 1 := by rw [← hw1]; simp
  rw [hw1] at ha hBa ⊢
  clear hw1
  have h2 := ha.c2
  have hbl := ha.lt b ha.inb
  obtain ⟨vp, vc, hvv⟩ : ∃ vp vc, vv = .slice vp vs.length vc := by
    rcases ha.vrow.2 with ⟨h', h''⟩ | ⟨g, cap, cur, h', _⟩
    · exact ⟨none, 0, by rw [h', h'']⟩
    · exact ⟨_, _, h'⟩
  subst hvv
  obtain ⟨g0, cap0, rfl, _, _, hcs0, _⟩ := row_open ha.prow hT.1
  have hA : TreeAt w1 b 1 g0 cap0 ps := ⟨ha.c1, hcs0⟩
  have hlb := hA.lt_b
  have hlg := hA.lt_g hT.1
  have HM : Hid (∀ y ∈ vs, OkB ps y) := fun y hy => okB_of hT hO hy
  have HG : Hid (guiltV ps vs u = (pairF (kindI ps) (ofV vs u)).map fun p => ⟨u, p.1, p.2.1, p.2.2⟩) := rfl
  clear hcs0
  go_loopw [5] (fun ii wr => ∃ i : Nat, i ≤ vs.length ∧ ii = .int .i64 i ∧ Below w1.heap.size w1 wr ∧ Hid (pairF (kindI ps) (ofV vs u) = pairF (kindI ps) (ofV (vs.drop i) u))) (fun ii _ => vs.length - (intOf ii).toNat)
  case atStart => exact ⟨0, by omega, rfl, Below.refl _ _, by simp [Hid]⟩
  case round =>
    obtain ⟨i, hi, rfl, hB, hP⟩ := hrel
    have r2 : wr.cell? ⟨b, 2, none⟩ = some (.slice vp vs.length vc) := (hB.cell (p := ⟨b, 2, none⟩) hlb).trans h2
    by_cases hlt : i < vs.length
    · have hlt' : (i : Int) < (vs.length : Int) := by omega
      obtain ⟨gv, cap, hgv, _, _, hc, _⟩ := vrow_open ha.vrow (by omega)
      simp only [Value.slice.injEq, true_and] at hgv
      obtain ⟨rfl, rfl⟩ := hgv
      have hgl : gv < w1.heap.size := VCells.lt hc (by omega)
      obtain ⟨x, hx⟩ : ∃ x, vs[i]? = some x := ⟨_, List.getElem?_eq_getElem hlt⟩
      obtain ⟨hc0, hc1, hc2⟩ := VCells.below hc hB hgl i x hx
      have hxb := HM.out x (List.mem_of_getElem? hx)
      have HO : Hid _ := ofV_drop u hx
      have HC : Hid (VCells w1 gv vs) := hc
      have HX : Hid (vs[i]? = some x) := hx
      clear hc hx
      have hwr : IntKind.i64.wrap ((i : Int) + 1) = (i : Int) + 1 := Go.IntWalk.i64_in _ (by omega)
      by_cases e1 : x.v = u
      · have q1 : (x.v != u) = false := by simpa using e1
        have HP : Hid (pairF (kindI ps) (ofV vs u) = match (ofV (vs.drop (i + 1)) u).find? (fun y => decide (kindI ps x y ≠ 0)) with | some y => some (kindI ps x y, x, y) | none => pairF (kindI ps) (ofV (vs.drop (i + 1)) u)) := by
          show _ = _
          rw [hP.out, HO.out, if_pos e1]; rfl
        have HE : Hid (x.v = u) := e1
        clear e1 hP HO
        go_wp2
        go_loopw [6] (fun jj wr2 => ∃ j : Nat, i + 1 + j ≤ vs.length ∧ jj = .int .i64 ((i + 1 + j : Nat) : Int) ∧ Below w1.heap.size w1 wr2 ∧ Hid ((ofV ((vs.drop (i + 1)).take j) u).find? (fun y => decide (kindI ps x y ≠ 0)) = none)) (fun jj _ => vs.length - (intOf jj).toNat)
        case atStart => exact ⟨0, by omega, by simp, hB, by simp [Hid, ofV]⟩
        case round =>
          clear hB r2 hc0 hc1 hc2
          obtain ⟨j, hj, rfl, hB, hF⟩ := hrel
          have r2 : wr.cell? ⟨b, 2, none⟩ = some (.slice (some ⟨gv, 0, none⟩) vs.length vc) := (hB.cell (p := ⟨b, 2, none⟩) hlb).trans h2
          obtain ⟨n, hn⟩ : ∃ n, i + 1 + j = n := ⟨_, rfl⟩
          rw [hn] at hj ⊢
          by_cases hjl : n < vs.length
          · have hjl' : (n : Int) < (vs.length : Int) := by omega
            obtain ⟨y, hy⟩ : ∃ y, vs[n]? = some y := ⟨_, List.getElem?_eq_getElem hjl⟩
            obtain ⟨hc0, hc1, hc2⟩ := VCells.below HC.out hB hgl i x HX.out
            obtain ⟨hd0, hd1, hd2⟩ := VCells.below HC.out hB hgl n y hy
            have hyb := HM.out y (List.mem_of_getElem? hy)
            have HT : Hid (ofV ((vs.drop (i + 1)).take (j + 1)) u = ofV ((vs.drop (i + 1)).take j) u ++ (if y.v = u then [y] else [])) := ofV_take u (by rw [List.getElem?_drop, hn]; exact hy)
            clear hy
            by_cases e2 : y.v = u
            · have q2 : (y.v != u) = false := by simpa using e2
              have HV : Hid (x.v = y.v) := HE.out.trans e2.symm
              have HFN : Hid ((ofV ((vs.drop (i + 1)).take (j + 1)) u).find? (fun y => decide (kindI ps x y ≠ 0)) = if decide (kindI ps x y ≠ 0) = true then some y else none) := by
                show _ = _
                rw [HT.out, if_pos e2, List.find?_append, hF.out]
                by_cases e : decide (kindI ps x y ≠ 0) = true
                · simp only [List.find?_cons, e, if_true]; rfl
                · simp only [List.find?_cons, e, List.find?_nil]; rfl
              clear e2 HT hF
              have hAy : TreeAt wr.drew b 1 g0 cap0 ps := (hA.below hB hlb hlg).below (Below.refl wr.heap.size wr).drew (by have := hB.size; omega) (by have := hB.size; omega)
              go_wp2_with fail
              refine wp_region_held_drew (S := fun w' => w'.cell? ⟨b, 2, none⟩ = some (.slice (some ⟨gv, 0, none⟩) vs.length vc) ∧ (w'.cell? ⟨gv, i * 3, none⟩ = some (I64 x.v) ∧ w'.cell? ⟨gv, i * 3 + 1, none⟩ = some (I64 x.s) ∧ w'.cell? ⟨gv, i * 3 + 2, none⟩ = some (I64 x.t)) ∧ w'.cell? ⟨gv, n * 3, none⟩ = some (I64 y.v) ∧ w'.cell? ⟨gv, n * 3 + 1, none⟩ = some (I64 y.s) ∧ w'.cell? ⟨gv, n * 3 + 2, none⟩ = some (I64 y.t)) (by kernel_rfl) ⟨r2, ⟨hc0, hc1, hc2⟩, hd0, hd1, hd2⟩ (fun hHeld => ?_)
              refine takeH (i := 0) (v := ?vv1) rfl (by kernel_rfl) (by kernel_rfl) (by kernel_rfl) (fun _ _ _ h => h) (Or.inl ⟨by rfl, ?hy1⟩) (by assumption) ?rest1
              case hy1 => (intro w hSw; (try dsimp only at hSw); go_simp; try with_reducible rfl)
              try simp only [Act.put, List.setIfInBounds_toArray, List.set_cons_zero, List.set_cons_succ]
              refine takeH (i := 1) (v := ?vv2) rfl (by kernel_rfl) (by kernel_rfl) (by kernel_rfl) (fun _ _ _ h => h) (Or.inl ⟨by rfl, ?hy2⟩) (by assumption) ?rest2
              case hy2 => (intro w hSw; (try dsimp only at hSw); go_simp; try with_reducible rfl)
              try simp only [Act.put, List.setIfInBounds_toArray, List.set_cons_zero, List.set_cons_succ]
              refine takeH (i := 2) (v := ?vv3) rfl (by kernel_rfl) (by kernel_rfl) (by kernel_rfl) (fun _ _ _ h => h) (Or.inl ⟨by rfl, ?hy3⟩) (by assumption) ?rest3
              case hy3 => (intro w hSw; (try dsimp only at hSw); go_simp; try with_reducible rfl)
              try simp only [Act.put, List.setIfInBounds_toArray, List.set_cons_zero, List.set_cons_succ]
              refine takeH (i := 3) (v := ?vv4) rfl (by kernel_rfl) (by kernel_rfl) (by kernel_rfl) (fun _ _ _ h => h) (Or.inl ⟨by rfl, ?hy4⟩) (by assumption) ?rest4
              case hy4 => (intro w hSw; (try dsimp only at hSw); go_simp; try with_reducible rfl)
              try simp only [Act.put, List.setIfInBounds_toArray, List.set_cons_zero, List.set_cons_succ]
              refine takeH (i := 4) (v := ?vv5) rfl (by kernel_rfl) (by kernel_rfl) (by kernel_rfl) (fun _ _ _ h => h) (Or.inl ⟨by rfl, ?hy5⟩) (by assumption) ?rest5
              case hy5 => (intro w hSw; (try dsimp only at hSw); go_simp; try with_reducible rfl)
              try simp only [Act.put, List.setIfInBounds_toArray, List.set_cons_zero, List.set_cons_succ]
              refine takeH (i := 5) (v := ?vv6) rfl (by kernel_rfl) (by kernel_rfl) (by kernel_rfl) (fun _ _ _ h => h) (Or.inl ⟨by rfl, ?hy6⟩) (by assumption) ?rest6
              case hy6 => (intro w hSw; (try dsimp only at hSw); go_simp; try with_reducible rfl)
              try simp only [Act.put, List.setIfInBounds_toArray, List.set_cons_zero, List.set_cons_succ]
              refine takeH (i := 6) (v := ?vv7) rfl (by kernel_rfl) (by kernel_rfl) (by kernel_rfl) (fun _ _ _ h => h) (Or.inl ⟨by rfl, ?hy7⟩) (by assumption) ?rest7
              case hy7 => (intro w hSw; (try dsimp only at hSw); go_simp; try with_reducible rfl)
              try simp only [Act.put, List.setIfInBounds_toArray, List.set_cons_zero, List.set_cons_succ]
              refine takeH (i := 7) (v := ?vv8) rfl (by kernel_rfl) (by kernel_rfl) (by kernel_rfl) (fun _ _ _ h => h) (Or.inl ⟨by rfl, ?hy8⟩) (by assumption) ?rest8
              case hy8 => (intro w hSw; (try dsimp only at hSw); go_simp; try with_reducible rfl)
              try simp only [Act.put, List.setIfInBounds_toArray, List.set_cons_zero, List.set_cons_succ]
              refine takeH (i := 8) (v := ?vv9) rfl (by kernel_rfl) (by kernel_rfl) (by kernel_rfl) (fun _ _ _ h => h) (Or.inl ⟨by rfl, ?hy9⟩) (by assumption) ?rest9
              case hy9 => (intro w hSw; (try dsimp only at hSw); go_simp; try with_reducible rfl)
              try simp only [Act.put, List.setIfInBounds_toArray, List.set_cons_zero, List.set_cons_succ]
              refine takeH (i := 9) (v := ?vv10) rfl (by kernel_rfl) (by kernel_rfl) (by kernel_rfl) (fun _ _ _ h => h) (Or.inl ⟨by rfl, ?hy10⟩) (by assumption) ?rest10
              case hy10 => (intro w hSw; (try dsimp only at hSw); go_simp; try with_reducible rfl)
              try simp only [Act.put, List.setIfInBounds_toArray, List.set_cons_zero, List.set_cons_succ]
              refine takeH (i := 10) (v := ?vv11) rfl (by kernel_rfl) (by kernel_rfl) (by kernel_rfl) (fun _ _ _ h => h) (Or.inl ⟨by rfl, ?hy11⟩) (by assumption) ?rest11
              case hy11 => (intro w hSw; (try dsimp only at hSw); go_simp; try with_reducible rfl)
              try simp only [Act.put, List.setIfInBounds_toArray, List.set_cons_zero, List.set_cons_succ]
              refine takeH (i := 11) (v := ?vv12) rfl (by kernel_rfl) (by kernel_rfl) (by kernel_rfl) (fun _ _ _ h => h) (Or.inl ⟨by rfl, ?hy12⟩) (by assumption) ?rest12
              case hy12 => (intro w hSw; (try dsimp only at hSw); go_simp; try with_reducible rfl)
              try simp only [Act.put, List.setIfInBounds_toArray, List.set_cons_zero, List.set_cons_succ]
              refine takeH (i := 12) (v := ?vv13) rfl (by kernel_rfl) (by kernel_rfl) (by kernel_rfl) (fun _ _ _ h => h) (Or.inl ⟨by rfl, ?hy13⟩) (by assumption) ?rest13
              case hy13 => (intro w hSw; (try dsimp only at hSw); go_simp; try with_reducible rfl)
              try simp only [Act.put, List.setIfInBounds_toArray, List.set_cons_zero, List.set_cons_succ]
              refine takeH (i := 13) (v := ?vv14) rfl (by kernel_rfl) (by kernel_rfl) (by kernel_rfl) (fun _ _ _ h => h) (Or.inl ⟨by rfl, ?hy14⟩) (by assumption) ?rest14
              case hy14 => (intro w hSw; (try dsimp only at hSw); go_simp; try with_reducible rfl)
              try simp only [Act.put, List.setIfInBounds_toArray, List.set_cons_zero, List.set_cons_succ]
              refine takeH (i := 14) (v := ?vv15) rfl (by kernel_rfl) (by kernel_rfl) (by kernel_rfl) (fun _ _ _ h => h) (Or.inl ⟨by rfl, ?hy15⟩) (by assumption) ?rest15
              case hy15 => (intro w hSw; (try dsimp only at hSw); go_simp; try with_reducible rfl)
              try simp only [Act.put, List.setIfInBounds_toArray, List.set_cons_zero, List.set_cons_succ]
              refine doneH (i := 15) rfl (by kernel_rfl) (by rfl) (fun K hK => ?_)
              have HK : Hid _ := hK
              clear hK
              go_simp
              refine (refKind_at b g0 cap0 ps hT x y HV.out hxb hyb _ hAy).mono ?_
              rintro e W3 ⟨rfl, hB4⟩
              have hB4 : Below wr.heap.size wr W3 := (Below.refl wr.heap.size wr).drew.trans hB4
              have hB5 : Below w1.heap.size w1 W3 := hB.trans (hB4.mono hB.size)
              have r3 : W3.cell? ⟨b, 2, none⟩ = some (.slice (some ⟨gv, 0, none⟩) vs.length vc) := (hB5.cell (p := ⟨b, 2, none⟩) hlb).trans h2
              obtain ⟨p0, p1, p2⟩ : W3.cell? ⟨gv, i * 3, none⟩ = some (I64 x.v) ∧ W3.cell? ⟨gv, i * 3 + 1, none⟩ = some (I64 x.s) ∧ W3.cell? ⟨gv, i * 3 + 2, none⟩ = some (I64 x.t) := by
                have hgr : gv < wr.heap.size := by have := hB.size; omega
                exact ⟨(hB4.cell (p := ⟨gv, i * 3, none⟩) hgr).trans hc0, (hB4.cell (p := ⟨gv, i * 3 + 1, none⟩) hgr).trans hc1, (hB4.cell (p := ⟨gv, i * 3 + 2, none⟩) hgr).trans hc2⟩
              obtain ⟨p3, p4, p5⟩ : W3.cell? ⟨gv, n * 3, none⟩ = some (I64 y.v) ∧ W3.cell? ⟨gv, n * 3 + 1, none⟩ = some (I64 y.s) ∧ W3.cell? ⟨gv, n * 3 + 2, none⟩ = some (I64 y.t) := by
                have hgr : gv < wr.heap.size := by have := hB.size; omega
                exact ⟨(hB4.cell (p := ⟨gv, n * 3, none⟩) hgr).trans hd0, (hB4.cell (p := ⟨gv, n * 3 + 1, none⟩) hgr).trans hd1, (hB4.cell (p := ⟨gv, n * 3 + 2, none⟩) hgr).trans hd2⟩
              clear hHeld hAy hc0 hc1 hc2 hd0 hd1 hd2 r2
              refine HK.out _ _ ⟨r3, ⟨p0, p1, p2⟩, p3, p4, p5⟩ (fun hHeld => ?_)
              clear HK K
              try simp only [Act.put, List.setIfInBounds_toArray, List.set_cons_zero, List.set_cons_succ]
              refine takeH (i := 16) (v := ?vv16) rfl (by kernel_rfl) (by kernel_rfl) (by kernel_rfl) (fun _ _ _ h => h) (Or.inl ⟨by rfl, ?hy16⟩) (by assumption) ?rest16
              case hy16 => (intro w hSw; (try dsimp only at hSw); go_simp; try with_reducible rfl)
              try simp only [Act.put, List.setIfInBounds_toArray, List.set_cons_zero, List.set_cons_succ]
              clear hHeld
              refine wpAnyH_done (by kernel_rfl) ?_ _
              have hkp := kindI_pos ps x y
              obtain ⟨kd, hkd⟩ : ∃ kd, kindI ps x y = kd := ⟨_, rfl⟩
              rw [hkd] at hkp ⊢
              have HFN' : Hid ((ofV ((vs.drop (i + 1)).take (j + 1)) u).find? (fun y => decide (kindI ps x y ≠ 0)) = if decide (kd ≠ 0) = true then some y else none) := by show _ = _; rw [HFN.out, hkd]
              have HKD : Hid (kindI ps x y = kd) := hkd
              clear hkd HFN
              by_cases hkz : kd = 0
              · have q : ¬ (0 : Int) < kd := by omega
                have HF2 : Hid ((ofV ((vs.drop (i + 1)).take (j + 1)) u).find? (fun y => decide (kindI ps x y ≠ 0)) = none) := by show _ = _; rw [HFN'.out, hkz]; rfl
                subst hkz
                clear HFN'
                go_wp2
                go_roundw
                case rel => exact ⟨j + 1, by omega, by rw [← hn]; go_num, hB5, HF2⟩
                case measure => simp [intOf]; omega
              · have q : (0 : Int) < kd := by omega
                have HR : Hid (guiltV ps vs u = some ⟨u, kd, x, y⟩) := by
                  show _ = _
                  have e1 : (ofV (vs.drop (i + 1)) u).find? (fun y => decide (kindI ps x y ≠ 0)) = some y := by
                    have e2 : ofV (vs.drop (i + 1)) u = ofV ((vs.drop (i + 1)).take (j + 1)) u ++ ofV ((vs.drop (i + 1)).drop (j + 1)) u := by
                      unfold ofV; rw [← List.filter_append, List.take_append_drop]
                    rw [e2, List.find?_append, HFN'.out]; simp [hkz]
                  rw [HG.out, HP.out, e1]
                  simp [HKD.out]
                clear HFN' hkz
                have hrw : W3.heap[w.heap.size]? = some (.cells #[I64 0, I64 0, I64 0, I64 0, I64 0, I64 0, I64 0, I64 0] 84 (0, 0)) := (hB5.block _ (by omega)).trans hr1
                have z0 : W3.cell? ⟨w.heap.size, 0, none⟩ = some (I64 0) := by rw [cell_of_heap hrw]; rfl
                have z1 : W3.cell? ⟨w.heap.size, 1, none⟩ = some (I64 0) := by rw [cell_of_heap hrw]; rfl
                have z2 : W3.cell? ⟨w.heap.size, 2, none⟩ = some (I64 0) := by rw [cell_of_heap hrw]; rfl
                have z3 : W3.cell? ⟨w.heap.size, 3, none⟩ = some (I64 0) := by rw [cell_of_heap hrw]; rfl
                have z4 : W3.cell? ⟨w.heap.size, 4, none⟩ = some (I64 0) := by rw [cell_of_heap hrw]; rfl
                have z5 : W3.cell? ⟨w.heap.size, 5, none⟩ = some (I64 0) := by rw [cell_of_heap hrw]; rfl
                have z6 : W3.cell? ⟨w.heap.size, 6, none⟩ = some (I64 0) := by rw [cell_of_heap hrw]; rfl
                have z7 : W3.cell? ⟨w.heap.size, 7, none⟩ = some (I64 0) := by rw [cell_of_heap hrw]; rfl
                have fz : ∀ o, W3.frozen? ⟨w.heap.size, o, none⟩ = false := fun o => frozen_of_heap hrw o
                have HRW : Hid _ := hrw
                clear hrw hr1
                go_wp2_with fail
                refine wp_region_held_drew (S := fun w' => w'.cell? ⟨b, 2, none⟩ = some (.slice (some ⟨gv, 0, none⟩) vs.length vc) ∧ (w'.cell? ⟨gv, i * 3, none⟩ = some (I64 x.v) ∧ w'.cell? ⟨gv, i * 3 + 1, none⟩ = some (I64 x.s) ∧ w'.cell? ⟨gv, i * 3 + 2, none⟩ = some (I64 x.t)) ∧ w'.cell? ⟨gv, n * 3, none⟩ = some (I64 y.v) ∧ w'.cell? ⟨gv, n * 3 + 1, none⟩ = some (I64 y.s) ∧ w'.cell? ⟨gv, n * 3 + 2, none⟩ = some (I64 y.t)) (by kernel_rfl) ⟨r3, ⟨p0, p1, p2⟩, p3, p4, p5⟩ (fun hHeld => ?_)
                refine takeH (i := 0) (v := ?vv17) rfl (by kernel_rfl) (by kernel_rfl) (by kernel_rfl) (fun _ _ _ h => h) (Or.inl ⟨by rfl, ?hy17⟩) (by assumption) ?rest17
                case hy17 => (intro w hSw; (try dsimp only at hSw); go_simp; try with_reducible rfl)
                try simp only [Act.put, List.setIfInBounds_toArray, List.set_cons_zero, List.set_cons_succ]
                refine takeH (i := 1) (v := ?vv18) rfl (by kernel_rfl) (by kernel_rfl) (by kernel_rfl) (fun _ _ _ h => h) (Or.inl ⟨by rfl, ?hy18⟩) (by assumption) ?rest18
                case hy18 => (intro w hSw; (try dsimp only at hSw); go_simp; try with_reducible rfl)
                try simp only [Act.put, List.setIfInBounds_toArray, List.set_cons_zero, List.set_cons_succ]
                refine takeH (i := 2) (v := ?vv19) rfl (by kernel_rfl) (by kernel_rfl) (by kernel_rfl) (fun _ _ _ h => h) (Or.inl ⟨by rfl, ?hy19⟩) (by assumption) ?rest19
                case hy19 => (intro w hSw; (try dsimp only at hSw); go_simp; try with_reducible rfl)
                try simp only [Act.put, List.setIfInBounds_toArray, List.set_cons_zero, List.set_cons_succ]
                refine takeH (i := 3) (v := ?vv20) rfl (by kernel_rfl) (by kernel_rfl) (by kernel_rfl) (fun _ _ _ h => h) (Or.inl ⟨by rfl, ?hy20⟩) (by assumption) ?rest20
                case hy20 => (intro w hSw; (try dsimp only at hSw); go_simp; try with_reducible rfl)
                try simp only [Act.put, List.setIfInBounds_toArray, List.set_cons_zero, List.set_cons_succ]
                refine takeH (i := 4) (v := ?vv21) rfl (by kernel_rfl) (by kernel_rfl) (by kernel_rfl) (fun _ _ _ h => h) (Or.inl ⟨by rfl, ?hy21⟩) (by assumption) ?rest21
                case hy21 => (intro w hSw; (try dsimp only at hSw); go_simp; try with_reducible rfl)
                try simp only [Act.put, List.setIfInBounds_toArray, List.set_cons_zero, List.set_cons_succ]
                refine takeH (i := 5) (v := ?vv22) rfl (by kernel_rfl) (by kernel_rfl) (by kernel_rfl) (fun _ _ _ h => h) (Or.inl ⟨by rfl, ?hy22⟩) (by assumption) ?rest22
                case hy22 => (intro w hSw; (try dsimp only at hSw); go_simp; try with_reducible rfl)
                try simp only [Act.put, List.setIfInBounds_toArray, List.set_cons_zero, List.set_cons_succ]
                refine takeH (i := 6) (v := ?vv23) rfl (by kernel_rfl) (by kernel_rfl) (by kernel_rfl) (fun _ _ _ h => h) (Or.inl ⟨by rfl, ?hy23⟩) (by assumption) ?rest23
                case hy23 => (intro w hSw; (try dsimp only at hSw); go_simp; try with_reducible rfl)
                try simp only [Act.put, List.setIfInBounds_toArray, List.set_cons_zero, List.set_cons_succ]
                refine takeH (i := 7) (v := ?vv24) rfl (by kernel_rfl) (by kernel_rfl) (by kernel_rfl) (fun _ _ _ h => h) (Or.inl ⟨by rfl, ?hy24⟩) (by assumption) ?rest24
                case hy24 => (intro w hSw; (try dsimp only at hSw); go_simp; try with_reducible rfl)
                try simp only [Act.put, List.setIfInBounds_toArray, List.set_cons_zero, List.set_cons_succ]
                refine takeH (i := 8) (v := ?vv25) rfl (by kernel_rfl) (by kernel_rfl) (by kernel_rfl) (fun _ _ _ h => h) (Or.inl ⟨by rfl, ?hy25⟩) (by assumption) ?rest25
                case hy25 => (intro w hSw; (try dsimp only at hSw); go_simp; try with_reducible rfl)
                try simp only [Act.put, List.setIfInBounds_toArray, List.set_cons_zero, List.set_cons_succ]
                refine takeH (i := 9) (v := ?vv26) rfl (by kernel_rfl) (by kernel_rfl) (by kernel_rfl) (fun _ _ _ h => h) (Or.inl ⟨by rfl, ?hy26⟩) (by assumption) ?rest26
                case hy26 => (intro w hSw; (try dsimp only at hSw); go_simp; try with_reducible rfl)
                try simp only [Act.put, List.setIfInBounds_toArray, List.set_cons_zero, List.set_cons_succ]
                refine takeH (i := 10) (v := ?vv27) rfl (by kernel_rfl) (by kernel_rfl) (by kernel_rfl) (fun _ _ _ h => h) (Or.inl ⟨by rfl, ?hy27⟩) (by assumption) ?rest27
                case hy27 => (intro w hSw; (try dsimp only at hSw); go_simp; try with_reducible rfl)
                try simp only [Act.put, List.setIfInBounds_toArray, List.set_cons_zero, List.set_cons_succ]
                refine takeH (i := 11) (v := ?vv28) rfl (by kernel_rfl) (by kernel_rfl) (by kernel_rfl) (fun _ _ _ h => h) (Or.inl ⟨by rfl, ?hy28⟩) (by assumption) ?rest28
                case hy28 => (intro w hSw; (try dsimp only at hSw); go_simp; try with_reducible rfl)
                try simp only [Act.put, List.setIfInBounds_toArray, List.set_cons_zero, List.set_cons_succ]
                refine takeH (i := 12) (v := ?vv29) rfl (by kernel_rfl) (by kernel_rfl) (by kernel_rfl) (fun _ _ _ h => h) (Or.inl ⟨by rfl, ?hy29⟩) (by assumption) ?rest29
                case hy29 => (intro w hSw; (try dsimp only at hSw); go_simp; try with_reducible rfl)
                try simp only [Act.put, List.setIfInBounds_toArray, List.set_cons_zero, List.set_cons_succ]
                refine takeH (i := 13) (v := ?vv30) rfl (by kernel_rfl) (by kernel_rfl) (by kernel_rfl) (fun _ _ _ h => h) (Or.inl ⟨by rfl, ?hy30⟩) (by assumption) ?rest30
                case hy30 => (intro w hSw; (try dsimp only at hSw); go_simp; try with_reducible rfl)
                try simp only [Act.put, List.setIfInBounds_toArray, List.set_cons_zero, List.set_cons_succ]
                refine takeH (i := 14) (v := ?vv31) rfl (by kernel_rfl) (by kernel_rfl) (by kernel_rfl) (fun _ _ _ h => h) (Or.inl ⟨by rfl, ?hy31⟩) (by assumption) ?rest31
                case hy31 => (intro w hSw; (try dsimp only at hSw); go_simp; try with_reducible rfl)
                try simp only [Act.put, List.setIfInBounds_toArray, List.set_cons_zero, List.set_cons_succ]
                refine takeH (i := 15) (v := ?vv32) rfl (by kernel_rfl) (by kernel_rfl) (by kernel_rfl) (fun _ _ _ h => h) (Or.inl ⟨by rfl, ?hy32⟩) (by assumption) ?rest32
                case hy32 => (intro w hSw; (try dsimp only at hSw); go_simp; try with_reducible rfl)
                try simp only [Act.put, List.setIfInBounds_toArray, List.set_cons_zero, List.set_cons_succ]
                refine takeH (i := 16) (v := ?vv33) rfl (by kernel_rfl) (by kernel_rfl) (by kernel_rfl) (fun _ _ _ h => h) (Or.inl ⟨by rfl, ?hy33⟩) (by assumption) ?rest33
                case hy33 => (intro w hSw; (try dsimp only at hSw); go_simp; try with_reducible rfl)
                try simp only [Act.put, List.setIfInBounds_toArray, List.set_cons_zero, List.set_cons_succ]
                refine doneH (i := 17) rfl (by kernel_rfl) (by rfl) (fun K hK => ?_)
                have HK : Hid _ := hK
                clear hK
                have hbw : b < w.heap.size := h.lt b h.inb
                have hgw : gv < w.heap.size := h.lt gv (h.inv gv rfl)
                go_simp
                have h8 := put8_heap (W := W3) HRW.out (I64 u) (I64 kd) (I64 x.v) (I64 x.s) (I64 x.t) (I64 y.v) (I64 y.s) (I64 y.t)
                have hb8 := (put8_below (B := w.heap.size) (w := W3) (W := W3) (n := w.heap.size) (Below.refl _ W3) (Nat.le_refl _) (I64 u) (I64 kd) (I64 x.v) (I64 x.s) (I64 x.t) (I64 y.v) (I64 y.s) (I64 y.t)).drew
                unfold put8 at hb8
                refine HK.out _ _ ?hs (fun hHeld2 => ?rs)
                case hs => exact ⟨(hb8.cell (p := ⟨b, 2, none⟩) hbw).trans r3, ⟨(hb8.cell (p := ⟨gv, i * 3, none⟩) hgw).trans p0, (hb8.cell (p := ⟨gv, i * 3 + 1, none⟩) hgw).trans p1, (hb8.cell (p := ⟨gv, i * 3 + 2, none⟩) hgw).trans p2⟩, (hb8.cell (p := ⟨gv, n * 3, none⟩) hgw).trans p3, (hb8.cell (p := ⟨gv, n * 3 + 1, none⟩) hgw).trans p4, (hb8.cell (p := ⟨gv, n * 3 + 2, none⟩) hgw).trans p5⟩
                clear HK K hHeld hHeld2
                try simp only [Act.put, List.setIfInBounds_toArray, List.set_cons_zero, List.set_cons_succ]
                refine wpAnyH_done (by kernel_rfl) ?_ _
                go_wp2
                obtain ⟨y0, y1, y2, y3, y4, y5, y6, y7⟩ := eight_cells h8
                unfold put8 at y0 y1 y2 y3 y4 y5 y6 y7
                refine ⟨rfl, guV (guiltV ps vs u), ?_, rfl, (hBa.trans (hB5.mono hBa.size)).trans hb8⟩
                rw [HR.out]
                simp only [results, Tryz.f107]
                simp [go_sem, y0, y1, y2, y3, y4, y5, y6, y7]
            · have q2 : (y.v != u) = true := by simpa using e2
              have HF2 : Hid ((ofV ((vs.drop (i + 1)).take (j + 1)) u).find? (fun y => decide (kindI ps x y ≠ 0)) = none) := by show _ = _; rw [HT.out, if_neg e2, List.append_nil]; exact hF.out
              clear e2 HT hF
              go_wp2
              go_roundw
              case rel => exact ⟨j + 1, by omega, by rw [← hn]; go_num, hB, HF2⟩
              case measure => simp [intOf]; omega
          · have hj' : n = vs.length := by omega
            have HP' : Hid (pairF (kindI ps) (ofV vs u) = pairF (kindI ps) (ofV (vs.drop (i + 1)) u)) := by
              have hF' := hF.out
              rw [List.take_of_length_le (by simp; omega)] at hF'
              show _ = _
              rw [HP.out, hF']
            clear HP hF
            go_wp2
            go_roundw
            case rel => exact ⟨i + 1, by omega, by go_num, hB, HP'⟩
            case measure => simp [intOf]; omega
      · have q1 : (x.v != u) = true := by simpa using e1
        have HP' : Hid (pairF (kindI ps) (ofV vs u) = pairF (kindI ps) (ofV (vs.drop (i + 1)) u)) := by
          show _ = _
          rw [hP.out, HO.out, if_neg e1]
        clear e1 hP HO
        go_wp2
        go_roundw
        case rel => exact ⟨i + 1, by omega, by go_num, hB, HP'⟩
        case measure => simp [intOf]; omega
    · have hrw : wr.heap[w.heap.size]? = some (.cells #[I64 0, I64 0, I64 0, I64 0, I64 0, I64 0, I64 0, I64 0] 84 (0, 0)) := (hB.block _ (by omega)).trans hr1
      have z0 : wr.cell? ⟨w.heap.size, 0, none⟩ = some (I64 0) := by rw [cell_of_heap hrw]; rfl
      have z1 : wr.cell? ⟨w.heap.size, 1, none⟩ = some (I64 0) := by rw [cell_of_heap hrw]; rfl
      have z2 : wr.cell? ⟨w.heap.size, 2, none⟩ = some (I64 0) := by rw [cell_of_heap hrw]; rfl
      have z3 : wr.cell? ⟨w.heap.size, 3, none⟩ = some (I64 0) := by rw [cell_of_heap hrw]; rfl
      have z4 : wr.cell? ⟨w.heap.size, 4, none⟩ = some (I64 0) := by rw [cell_of_heap hrw]; rfl
      have z5 : wr.cell? ⟨w.heap.size, 5, none⟩ = some (I64 0) := by rw [cell_of_heap hrw]; rfl
      have z6 : wr.cell? ⟨w.heap.size, 6, none⟩ = some (I64 0) := by rw [cell_of_heap hrw]; rfl
      have z7 : wr.cell? ⟨w.heap.size, 7, none⟩ = some (I64 0) := by rw [cell_of_heap hrw]; rfl
      have fz : ∀ o, wr.frozen? ⟨w.heap.size, o, none⟩ = false := fun o => frozen_of_heap hrw o
      have HRW : Hid _ := hrw
      clear hrw hr1
      go_wp2
      have HN : Hid (guiltV ps vs u = none) := by
        show _ = _
        rw [HG.out, hP.out, List.drop_eq_nil_of_le (by omega)]; rfl
      have h8 := put8_heap HRW.out (I64 0) (I64 0) (I64 0) (I64 0) (I64 0) (I64 0) (I64 0) (I64 0)
      obtain ⟨y0, y1, y2, y3, y4, y5, y6, y7⟩ := eight_cells h8
      unfold put8 at y0 y1 y2 y3 y4 y5 y6 y7
      refine ⟨rfl, guV (guiltV ps vs u), ?_, rfl, put8_below (hBa.trans (hB.mono hBa.size)) (Nat.le_refl _) _ _ _ _ _ _ _ _⟩
      rw [HN.out]
      simp only [results, Tryz.f107]
      simp [go_sem, y0, y1, y2, y3, y4, y5, y6, y7]

theorem pairF_pos {K : Vt → Vt → Int} (hK : ∀ x y, 0 ≤ K x y) {l : List Vt} {p : Int × Vt × Vt} (h : pairF K l = some p) : 0 < p.1 := by
  induction l with
  | nil => simp [pairF] at h
  | cons x r ih =>
    unfold pairF at h
    cases hf : r.find? (fun y => decide (K x y ≠ 0)) with
    | none => rw [hf] at h; exact ih h
    | some y =>
      rw [hf] at h
      simp only [Option.some.injEq] at h
      have h1 := List.find?_some hf
      have h2 := hK x y
      simp at h1
      rw [← h]
      show 0 < K x y
      omega
theorem guiltV_pos {ps : List Int} {vs : List Vt} {u : Int} {g : Gu} (h : guiltV ps vs u = some g) : 0 < g.k := by
  unfold guiltV at h
  cases hp : pairF (kindI ps) (ofV vs u) with
  | none => rw [hp] at h; cases h
  | some p =>
    rw [hp] at h
    simp only [Option.map_some, Option.some.injEq] at h
    rw [← h]
    exact pairF_pos (kindI_pos ps) hp

set_option maxRecDepth 100000 in
set_option maxHeartbeats 4000000 in
theorem refGuilty_at (b : Nat) (S : Nat → Prop) (ws ps : List Int) (vs : List Vt) (wv pv vv : Value) (w : World) (h : RefAt w b S ws ps vs wv pv vv) (hT : Tree ps) (hW : OkWs ws) (hl : vs.length ≤ 300) (hO : OkV ws.length ps vs) :
    Calls Tryz.prog 77 #[.pointer (some ⟨b, 0, none⟩)] w fun e w' => (∃ v, e = .returned v ∧ w'.ownsRow w.heap.size 84 8 v (guiltL ws.length ps vs).length (guRow (guiltL ws.length ps vs))) ∧ Below w.heap.size w w' := by
  have h0 := h.c0
  have hbl := h.lt b h.inb
  obtain ⟨gw, capw, rfl, _, _, _, _⟩ := row_open h.wrow hW.pos
  have hw12 := hW.le
  obtain ⟨i0, hi, hz0, hz1, hz2⟩ := info_parts info_guilt
  go_enter Tryz.func77, Tryz.ntmps77
  go_wp2
  go_loopw [3, 4] (fun v i wr => ∃ k : Nat, k ≤ ws.length ∧ i = .int .i64 k ∧ Below w.heap.size w wr ∧ wr.ownsRow w.heap.size 84 8 v (guiltL k ps vs).length (guRow (guiltL k ps vs))) (fun _ i _ => ws.length - (intOf i).toNat)
  case atStart => exact ⟨0, by omega, rfl, Below.refl _ _, World.ownsRow_nil _ _ _ _⟩
  case round =>
    obtain ⟨k, hk, rfl, hB, hown⟩ := hrel
    have hz := hB.size
    have r0 : wr.cell? ⟨b, 0, none⟩ = some (.slice (some ⟨gw, 0, none⟩) ws.length capw) := (hB.cell (p := ⟨b, 0, none⟩) hbl).trans h0
    by_cases hlt : k < ws.length
    · have hlt' : (k : Int) < (ws.length : Int) := by omega
      have hC := h.kept (Chg.of_below (fun _ => False) hB) (fun _ _ hf => hf)
      have HS : Hid _ := guiltL_succ k ps vs
      have hgl := guiltL_length k ps vs
      obtain ⟨G, hG⟩ : ∃ G, guiltL k ps vs = G := ⟨_, rfl⟩
      rw [hG] at hown hgl
      have HG : Hid (guiltL k ps vs = G) := hG
      clear hG
      go_wp2_with fail
      refine (refGuilt_at b S ws ps vs _ _ _ k wr hC hT hl hO).mono ?_
      rintro e w3 ⟨rfl, hB3⟩
      have hown3 := row_below hown hB3 (Nat.le_refl _)
      have hB4 : Below w.heap.size w w3 := hB.trans (hB3.mono hz)
      have hz4 := hB4.size
      cases hgv : guiltV ps vs k with
      | none =>
        have HS' : Hid (guiltL (k + 1) ps vs = G) := by show _ = _; rw [HS.out, HG.out, hgv]; simp
        clear HS hgv
        go_wp2
        go_roundw
        case rel => exact ⟨k + 1, by omega, by go_num, hB4.alloc hz4 _, by rw [HS'.out]; exact hown3.alloc _⟩
        case measure => simp [intOf]; omega
      | some gu =>
        have hkp : 0 < gu.k := guiltV_pos hgv
        have HS' : Hid (guiltL (k + 1) ps vs = G ++ [gu]) := by show _ = _; rw [HS.out, HG.out, hgv]; rfl
        clear HS hgv
        have h63 : Hid (G.length + 1 ≤ maxLen) := by show _ ≤ _; unfold maxLen; omega
        go_wp2_with (at_builtin; refine wpList_append_own _ (by rfl) _ _ _ (by rfl) w.heap.size 84 i0 (.agg #[I64 0, I64 0, I64 0, I64 0, I64 0, I64 0, I64 0, I64 0]) 8 64 Tryz.underlying72 hi hz0 hz1 hz2 rfl (by omega) _ G.length (guRow G) (by rfl) ((hown3.alloc _).alloc _) ⟨w3.heap.size + 1, 0, none⟩ 1 1 (guCells gu) (by rfl) (by rfl) (cells_two _ _ #[I64 gu.v, I64 gu.k, I64 gu.a.v, I64 gu.a.s, I64 gu.a.t, I64 gu.b.v, I64 gu.b.s, I64 gu.b.t] _) (by simp [guCells, Value.oneCell']) h63.out (by omega) (by simp; omega) ?_; intro v1 w1 hown1 hgrow1 hnil1)
        go_roundw
        case rel => exact ⟨k + 1, by omega, by go_num, ((hB4.alloc hz4 _).alloc (by simp; omega) _).grown hgrow1 (by simp; omega) (fun j e => (hown3.lt j e).1), by rw [HS'.out, guRow_append, List.length_append]; simpa [guRow] using hown1⟩
        case measure => simp [intOf]; omega
    · have hk' : k = ws.length := by omega
      subst hk'
      go_wp2
      go_ret
      exact ⟨⟨_, rfl, hown⟩, hB⟩
end Go.Proofs.YtgebcnnenhgkcaaGreat
/- The statements' own look at Just, Final and Guilty, of both Courts. -/
namespace Go.Proofs.YtgebcnnenhgkcaaGreat
open Go.RowKit

theorem row_ints {w : World} {base : Nat} {v : Value} {l : List Int} (h : w.ownsRow base 3 1 v l.length (l.map I64)) : ∃ p c, v = .slice p l.length c ∧ IntsAt w p l := by
  by_cases h0 : 0 < l.length
  · obtain ⟨g, cap, rfl, _, _, hc, _⟩ := row_open (row_low h) h0
    exact ⟨_, _, rfl, .inr ⟨g, 0, rfl, fun j hj => by rw [Nat.zero_add]; exact hc j hj⟩⟩
  · have hl : l = [] := List.length_eq_zero_iff.1 (by omega)
    subst hl
    rcases h.2 with ⟨rfl, _⟩ | ⟨g, cap, cur, rfl, _⟩
    · exact ⟨none, 0, rfl, .inl rfl⟩
    · exact ⟨_, _, rfl, .inl rfl⟩

section
variable {w w' : World} {Pr : Nat → Prop} {x b rb : Nat} {S R : Nat → Prop} {ws ps : List Int} {vs : List Vt}
/-- The program's Court is as it was; all else too. -/
theorem BothAt.same (h : BothAt w Pr x b rb S R ws ps vs) {wv pv vv : Value} (hC : CourtAt w' b S 0 ws ps vs wv pv vv) (hc : Chg S w w') : BothAt w' Pr x b rb S R ws ps vs := by
  obtain ⟨hbx, hdoc, hdis, hxS, hlow, _⟩ := h.courtTo hc (S' := S) (fun k hk => .inl hk)
  exact ⟨hbx.trans h.box, ⟨_, _, _, hC⟩, hdoc, hdis, hxS, h.xR, h.lowx, hlow, h.lowR, fun k hk => Nat.lt_of_lt_of_le (h.le k hk) hc.size, h.okw, h.T, h.len, h.okv⟩
end

set_option maxRecDepth 100000 in
set_option maxHeartbeats 2000000 in
theorem justLawB_at (Pr : Nat → Prop) (x b rb : Nat) (S R : Nat → Prop) (ws ps : List Int) (vs : List Vt) (w : World) (hb : BothAt w Pr x b rb S R ws ps vs) :
    Calls Tryz.prog 45 #[.pointer (some ⟨x, 0, none⟩)] w fun e w' => (∃ v, e = .returned (.tuple #[v, .bool true]) ∧ w'.ownsRow w.heap.size 3 1 v (justL ws ps vs).length ((justL ws ps vs).map I64)) ∧ BothAt w' Pr x b rb S R ws ps vs ∧ Chg (fun k => ¬ Pr k) w w' := by
  obtain ⟨wv, pv, vv, hC⟩ := hb.court
  have hW := okWs_of hb.okw
  have hx0 := hb.x0
  have hjl : (justL ws ps vs).length ≤ ps.length := justN_length ws ps vs ps.length
  have hT40 := hb.T.2.1
  go_enter Tryz.func45, Tryz.ntmps45
  go_wp2_with fail
  refine (just_at b S ws ps vs wv pv vv _ hC hb.T hW hb.len hb.okv).mono ?_
  rintro e w1 ⟨⟨v, rfl, hrow⟩, hC1, hc1⟩
  have hb1 := hb.same hC1 hc1
  have hx1 := hb1.x1
  obtain ⟨_, _, _, hR1⟩ := hb1.doc
  clear hx0
  go_wp2_with fail
  refine (refJust_at rb R ws ps vs _ _ _ _ hR1 hb.T hW hb.len hb.okv).mono ?_
  rintro e w2 ⟨⟨v2, rfl, hrow2⟩, hB2⟩
  have hrow1 := row_below hrow hB2 (Nat.le_refl _)
  obtain ⟨p1, d1, rfl, hi1⟩ := row_ints hrow1
  obtain ⟨p2, d2, rfl, hi2⟩ := row_ints hrow2
  have hb2 := hb1.kept hB2
  have hcw : Chg (fun k => ¬ Pr k) w w2 := (hc1.mono (fun k _ hk => hb.lowS k hk)).trans (Chg.of_below _ hB2)
  clear hx1 hrow hrow2
  go_wp2_with fail
  refine (sameInts_at p1 p2 d1 d2 (justL ws ps vs) (justL ws ps vs) _ hi1 hi2 (by unfold maxLen; omega)).mono ?_
  rintro e w3 ⟨rfl, n, rfl⟩
  have hBd : Below w2.heap.size w2 (w2.drewN n) := below_drewN (Below.refl _ _) n
  have hd : decide (justL ws ps vs = justL ws ps vs) = true := by simp
  rw [hd]
  go_wp2
  go_ret2
  exact ⟨⟨_, rfl, row_below hrow1 hBd (Nat.le_refl _)⟩, hb2.kept hBd, hcw.trans (Chg.of_below _ hBd)⟩
set_option maxRecDepth 100000 in
set_option maxHeartbeats 2000000 in
theorem finalLawB_at (Pr : Nat → Prop) (x b rb : Nat) (S R : Nat → Prop) (ws ps : List Int) (vs : List Vt) (w : World) (hb : BothAt w Pr x b rb S R ws ps vs) :
    Calls Tryz.prog 46 #[.pointer (some ⟨x, 0, none⟩)] w fun e w' => (∃ v, e = .returned (.tuple #[v, .bool true]) ∧ w'.ownsRow w.heap.size 3 1 v (finalL ws ps vs).length ((finalL ws ps vs).map I64)) ∧ BothAt w' Pr x b rb S R ws ps vs ∧ Chg (fun k => ¬ Pr k) w w' := by
  obtain ⟨wv, pv, vv, hC⟩ := hb.court
  have hW := okWs_of hb.okw
  have hx0 := hb.x0
  have hjl : (finalL ws ps vs).length ≤ ps.length := Nat.le_trans (List.length_filter_le _ _) (justN_length ws ps vs ps.length)
  have hT40 := hb.T.2.1
  go_enter Tryz.func46, Tryz.ntmps46
  go_wp2_with fail
  refine (final_at b S ws ps vs wv pv vv _ hC hb.T hW hb.len hb.okv).mono ?_
  rintro e w1 ⟨⟨v, rfl, hrow⟩, hC1, hc1⟩
  have hb1 := hb.same hC1 hc1
  have hx1 := hb1.x1
  obtain ⟨_, _, _, hR1⟩ := hb1.doc
  clear hx0
  go_wp2_with fail
  refine (refFinal_at rb R ws ps vs _ _ _ _ hR1 hb.T hW hb.len hb.okv).mono ?_
  rintro e w2 ⟨⟨v2, rfl, hrow2⟩, hB2⟩
  have hrow1 := row_below hrow hB2 (Nat.le_refl _)
  obtain ⟨p1, d1, rfl, hi1⟩ := row_ints hrow1
  obtain ⟨p2, d2, rfl, hi2⟩ := row_ints hrow2
  have hb2 := hb1.kept hB2
  have hcw : Chg (fun k => ¬ Pr k) w w2 := (hc1.mono (fun k _ hk => hb.lowS k hk)).trans (Chg.of_below _ hB2)
  clear hx1 hrow hrow2
  go_wp2_with fail
  refine (sameInts_at p1 p2 d1 d2 (finalL ws ps vs) (finalL ws ps vs) _ hi1 hi2 (by unfold maxLen; omega)).mono ?_
  rintro e w3 ⟨rfl, n, rfl⟩
  have hBd : Below w2.heap.size w2 (w2.drewN n) := below_drewN (Below.refl _ _) n
  have hd : decide (finalL ws ps vs = finalL ws ps vs) = true := by simp
  rw [hd]
  go_wp2
  go_ret2
  exact ⟨⟨_, rfl, row_below hrow1 hBd (Nat.le_refl _)⟩, hb2.kept hBd, hcw.trans (Chg.of_below _ hBd)⟩
set_option maxRecDepth 100000 in
set_option maxHeartbeats 2000000 in
theorem guiltyLawB_at (Pr : Nat → Prop) (x b rb : Nat) (S R : Nat → Prop) (ws ps : List Int) (vs : List Vt) (w : World) (hb : BothAt w Pr x b rb S R ws ps vs) :
    Calls Tryz.prog 47 #[.pointer (some ⟨x, 0, none⟩)] w fun e w' => (∃ v, e = .returned (.tuple #[v, .bool true]) ∧ w'.ownsRow w.heap.size 84 8 v (guiltL ws.length ps vs).length (guRow (guiltL ws.length ps vs))) ∧ BothAt w' Pr x b rb S R ws ps vs ∧ Chg (fun k => ¬ Pr k) w w' := by
  obtain ⟨wv, pv, vv, hC⟩ := hb.court
  have hW := okWs_of hb.okw
  have hx0 := hb.x0
  have hjl := guiltL_length ws.length ps vs
  have hw12 := hW.le
  go_enter Tryz.func47, Tryz.ntmps47
  go_wp2_with fail
  refine (guilty_at b S ws ps vs wv pv vv _ hC hb.T hW hb.len hb.okv).mono ?_
  rintro e w1 ⟨⟨v, rfl, hrow⟩, hC1, hc1⟩
  have hb1 := hb.same hC1 hc1
  have hx1 := hb1.x1
  obtain ⟨_, _, _, hR1⟩ := hb1.doc
  clear hx0
  go_wp2_with fail
  refine (refGuilty_at rb R ws ps vs _ _ _ _ hR1 hb.T hW hb.len hb.okv).mono ?_
  rintro e w2 ⟨⟨v2, rfl, hrow2⟩, hB2⟩
  have hrow1 := row_below hrow hB2 (Nat.le_refl _)
  have hb2 := hb1.kept hB2
  have hcw : Chg (fun k => ¬ Pr k) w w2 := (hc1.mono (fun k _ hk => hb.lowS k hk)).trans (Chg.of_below _ hB2)
  have hg1 := row_gu hrow1
  have hg2 := row_gu hrow2
  clear hx1 hrow hrow2
  go_wp2_with fail
  refine (sameGuilt_at v v2 (guiltL ws.length ps vs) _ hg1 hg2 (by omega)).mono ?_
  rintro e w3 ⟨rfl, hBd⟩
  go_wp2
  go_ret2
  exact ⟨⟨_, rfl, row_below hrow1 hBd (Nat.le_refl _)⟩, hb2.kept hBd, hcw.trans (Chg.of_below _ hBd)⟩
end Go.Proofs.YtgebcnnenhgkcaaGreat
