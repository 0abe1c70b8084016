/- The statements without the document's answer: pick, weights, opened. -/
import Derived.Test.YtgebcnnenhgkcaaGreatNewA
import Derived.Test.YtgebcnnenhgkcaaGreatGuiltA
namespace Go.Proofs.YtgebcnnenhgkcaaGreat
open Go.RowKit

def pickF (c n : Int) : Int := (if c < 0 then -(c + 1) else c) % n
theorem pickF_bounds (c : Int) {n : Int} (h : 0 < n) : 0 ≤ pickF c n ∧ pickF c n < n := by
  unfold pickF
  exact ⟨Int.emod_nonneg _ (by omega), Int.emod_lt_of_pos _ h⟩

theorem pick_at (c n : Int) (w : World) (hn : 0 < n) (hn2 : n ≤ 1000) (hc : -9223372036854775808 ≤ c ∧ c ≤ 9223372036854775807) :
    Calls Tryz.prog 23 #[.int .i64 c, .int .i64 n] w fun e w' => e = .returned (.int .i64 (pickF c n)) ∧ w' = w := by
  by_cases h : c < 0
  · go_enter Tryz.func23, Tryz.ntmps23
    go_wp2
    go_ret
    refine ⟨congrArg (fun z => Ending.returned (Value.int .i64 z)) ?_, rfl⟩
    unfold pickF
    rw [if_pos h, ← Int.neg_tmod, Int.tmod_eq_emod_of_nonneg (by omega)]
  · go_enter Tryz.func23, Tryz.ntmps23
    go_wp2
    go_ret
    refine ⟨congrArg (fun z => Ending.returned (Value.int .i64 z)) ?_, rfl⟩
    unfold pickF
    rw [if_neg (by omega)]

/-- The weights out of raw numbers. -/
def wsOf (raw : List Int) : List Int := if raw = [] then [1] else (raw.take 12).map fun r => 1 + pickF r 100
theorem wsOf_ok (raw : List Int) : okW (wsOf raw) = true := by
  unfold wsOf
  split
  · rfl
  · rename_i h
    have hl : 0 < raw.length := by cases raw with | nil => simp at h | cons => simp
    refine okW_all (by simp; omega) (by simp; omega) (fun x hx => ?_)
    simp only [List.mem_map] at hx
    obtain ⟨r, _, rfl⟩ := hx
    have := pickF_bounds r (n := 100) (by omega)
    omega

/-- A list of one number, made new. -/
theorem one_row (w : World) (base : Nat) (x : Int) (hb : base ≤ w.heap.size) : (w.alloc (.cells #[I64 x] 3)).ownsRow base 3 1 (.slice (some ⟨w.heap.size, 0, none⟩) 1 1) 1 ([x].map I64) :=
  ⟨by simp, .inr ⟨w.heap.size, 1, #[I64 x], rfl, hb, heap_alloc_new w _, by omega, by decide, by simp, by simp⟩⟩

set_option maxRecDepth 100000 in
set_option maxHeartbeats 2000000 in
theorem weights_at (p : Option Addr) (c : Nat) (raw : List Int) (w : World) (hx : IntsAt w p raw) (hl : raw.length ≤ maxLen) (hb : ∀ r ∈ raw, -9223372036854775808 ≤ r ∧ r ≤ 9223372036854775807) :
    Calls Tryz.prog 19 #[.slice p raw.length c] w fun e w' => (∃ v, e = .returned (.tuple #[v, .int .i64 (sumI (wsOf raw))]) ∧ w'.ownsRow w.heap.size 3 1 v (wsOf raw).length ((wsOf raw).map I64)) ∧ Below w.heap.size w w' := by
  obtain ⟨i0, hi, hz0, hz1, hz2⟩ := info_parts info_int
  have hl' : raw.length ≤ 9223372036854775807 := by unfold maxLen at hl; omega
  have HB : Hid (∀ r ∈ raw, -9223372036854775808 ≤ r ∧ r ≤ 9223372036854775807) := hb
  clear hb hl
  go_enter Tryz.func19, Tryz.ntmps19
  go_wp2
  go_loopw [4, 5, 6] (fun v t i wr => ∃ k : Nat, k ≤ raw.length ∧ k ≤ 12 ∧ i = .int .i64 k ∧ t = .int .i64 (sumI ((raw.take k).map fun r => 1 + pickF r 100)) ∧ 0 ≤ sumI ((raw.take k).map fun r => 1 + pickF r 100) ∧ sumI ((raw.take k).map fun r => 1 + pickF r 100) ≤ 100 * k ∧ Below w.heap.size w wr ∧ wr.ownsRow w.heap.size 3 1 v k (((raw.take k).map fun r => 1 + pickF r 100).map I64)) (fun _ _ i _ => 12 - (intOf i).toNat)
  case atStart => exact ⟨0, by omega, by omega, rfl, by simp [sumI_nil], by simp [sumI_nil], by simp [sumI_nil], Below.refl _ _, World.ownsRow_nil _ _ _ _⟩
  case round =>
    obtain ⟨k, hk, hk12, rfl, rfl, ht0, ht1, hB, hown⟩ := hrel
    have hz := hB.size
    by_cases hlt : k < raw.length
    · have hlt' : (k : Int) < (raw.length : Int) := by omega
      by_cases h12 : k < 12
      · have h12' : (k : Int) < 12 := by omega
        rcases hx with rfl | ⟨g, o, rfl, hcs⟩
        · simp at hlt
        obtain ⟨r, hr⟩ : ∃ r, raw[k]? = some r := ⟨_, List.getElem?_eq_getElem hlt⟩
        have hc : wr.cell? ⟨g, o + k, none⟩ = some (I64 r) := by
          have h1 := hcs k hlt
          rw [hr] at h1
          exact (hB.cell (p := ⟨g, o + k, none⟩) (World.block_lt_of_cell? w _ h1)).trans h1
        have hrb := HB.out r (List.mem_of_getElem? hr)
        obtain ⟨y0, y1⟩ := pickF_bounds r (n := 100) (by omega)
        have hpk := pick_at r 100 wr (by omega) (by omega) hrb
        obtain ⟨y, hy⟩ : ∃ y, pickF r 100 = y := ⟨_, rfl⟩
        rw [hy] at y0 y1 hpk
        have HT : Hid ((raw.take (k + 1)).map (fun r => 1 + pickF r 100) = (raw.take k).map (fun r => 1 + pickF r 100) ++ [1 + y]) := by
          show _ = _
          rw [List.take_add_one, hr]; simp [hy]
        clear hy hr hcs
        obtain ⟨Z, hZ⟩ : ∃ Z, (raw.take k).map (fun r => 1 + pickF r 100) = Z := ⟨_, rfl⟩
        have hZl : Z.length = k := by rw [← hZ]; simp; omega
        rw [hZ] at ht0 ht1 hown ⊢
        have HZ : Hid ((raw.take k).map (fun r => 1 + pickF r 100) = Z) := hZ
        clear hZ
        obtain ⟨T, hT⟩ : ∃ T, sumI Z = T := ⟨_, rfl⟩
        rw [hT] at ht0 ht1 ⊢
        have HTT : Hid (sumI Z = T) := hT
        clear hT
        have hwr : IntKind.i64.wrap (1 + y) = 1 + y := Go.IntWalk.i64_in _ (by omega)
        have hwr2 : IntKind.i64.wrap (T + (1 + y)) = T + (1 + y) := Go.IntWalk.i64_in _ (by omega)
        have h63 : Hid (k + 1 ≤ maxLen) := by show _ ≤ _; unfold maxLen; omega
        go_wp2_with fail
        refine hpk.mono ?_
        rintro e w2 ⟨rfl, rfl⟩
        clear hpk
        go_wp2_with (at_builtin; refine wpList_append_own _ (by rfl) _ _ _ (by rfl) w.heap.size 3 i0 (I64 0) 1 8 Tryz.underlying22 hi hz0 hz1 hz2 rfl (by omega) _ k (Z.map I64) (by rfl) (hown.alloc _) ⟨w2.heap.size, 0, none⟩ 1 1 [I64 (1 + y)] (by rfl) (by rfl) (cell_one_new _ _ _) (by simp [Value.oneCell']) h63.out (by omega) (by simp; omega) ?_; intro v1 w1 hown1 hgrow1 hnil1; have hrow1 : w1.ownsRow w.heap.size 3 1 v1 (Z ++ [1 + y]).length ((Z ++ [1 + y]).map I64) := (by rw [List.map_append, List.length_append, hZl]; exact hown1); obtain ⟨gz, capz, rfl, _, _, hcz, _⟩ := row_open (row_low hrow1) (by simp); have hck : w1.cell? ⟨gz, k, none⟩ = some (I64 (1 + y)) := (by have h9 := hcz k (by simp; omega); rw [List.getElem?_append_right (by omega), hZl] at h9; simpa using h9); have hln : (Z ++ [1 + y]).length = k + 1 := (by simp; omega); rw [hln]; clear hcz)
        go_roundw
        case rel =>
          refine ⟨k + 1, by omega, by omega, by go_num, ?_, ?_, ?_, (hB.alloc hz _).grown hgrow1 (by simp; omega) (fun j e => (hown.lt j e).1), ?_⟩
          · rw [HT.out, HZ.out, sumI_append, HTT.out]; simp [sumI_cons, sumI_nil]
          · rw [HT.out, HZ.out, sumI_append, HTT.out]; simp [sumI_cons, sumI_nil]; omega
          · rw [HT.out, HZ.out, sumI_append, HTT.out]; simp [sumI_cons, sumI_nil]; omega
          · rw [HT.out, HZ.out]; rw [hln] at hrow1; exact hrow1
        case measure => simp [intOf]; omega
      · have hk' : k = 12 := by omega
        have hkp : 0 < k := by omega
        have HW : Hid (wsOf raw = (raw.take k).map fun r => 1 + pickF r 100) := by
          show _ = _
          unfold wsOf
          rw [if_neg (by intro e; rw [e] at hk; simp at hk; omega)]
          rw [hk']
        rcases hown.2 with ⟨hv, hn0⟩ | ⟨g, cap, cur, hv, _⟩
        · omega
        subst hv
        have hkb : ((k : Int) == 0) = false := by simp; omega
        have hkl : (wsOf raw).length = k := by rw [HW.out]; simp; omega
        obtain ⟨T, hT⟩ : ∃ T, sumI ((raw.take k).map fun r => 1 + pickF r 100) = T := ⟨_, rfl⟩
        rw [hT] at ht0 ht1 ⊢
        have HT : Hid (sumI ((raw.take k).map fun r => 1 + pickF r 100) = T) := hT
        have HK' : Hid _ := hk'
        clear hT hk'
        go_wp2
        go_ret2
        exact ⟨⟨_, by rw [HW.out, HT.out]; rfl, by rw [hkl, HW.out]; exact hown⟩, hB⟩
    · have hk' : k = raw.length := by omega
      by_cases hkp : 0 < k
      · have HW : Hid (wsOf raw = (raw.take k).map fun r => 1 + pickF r 100) := by
          show _ = _
          unfold wsOf
          rw [if_neg (by intro e; rw [e] at hk; simp at hk; omega)]
          rw [List.take_of_length_le (by omega), List.take_of_length_le (by omega)]
        rcases hown.2 with ⟨hv, hn0⟩ | ⟨g, cap, cur, hv, _⟩
        · omega
        subst hv
        have hkb : ((k : Int) == 0) = false := by simp; omega
        have hkl : (wsOf raw).length = k := by rw [HW.out]; simp; omega
        obtain ⟨T, hT⟩ : ∃ T, sumI ((raw.take k).map fun r => 1 + pickF r 100) = T := ⟨_, rfl⟩
        rw [hT] at ht0 ht1 ⊢
        have HT : Hid (sumI ((raw.take k).map fun r => 1 + pickF r 100) = T) := hT
        have HK' : Hid _ := hk'
        clear hT hk'
        go_wp2
        go_ret2
        exact ⟨⟨_, by rw [HW.out, HT.out]; rfl, by rw [hkl, HW.out]; exact hown⟩, hB⟩
      · have hk0 : k = 0 := by omega
        have hr0 : raw = [] := List.length_eq_zero_iff.1 (by omega)
        have HW : Hid (wsOf raw = [1]) := by rw [hr0]; simp [Hid, wsOf]
        have hlt0 : ¬ (0 : Int) < (raw.length : Int) := by omega
        obtain ⟨T, hT⟩ : ∃ T, sumI ((raw.take k).map fun r => 1 + pickF r 100) = T := ⟨_, rfl⟩
        rw [hT]
        clear hT hr0 hk' ht0 ht1
        subst hk0
        have hBn : Below w.heap.size w (wr.alloc (.cells #[I64 1] 3)) := hB.alloc hz _
        rcases hown.2 with ⟨hv, hn0⟩ | ⟨g, cap, cur, hv, _⟩
        · subst hv
          go_wp2
          go_ret2
          exact ⟨⟨_, by rw [HW.out]; rfl, by rw [HW.out]; exact one_row _ _ _ hz⟩, hBn⟩
        · subst hv
          go_wp2
          go_ret2
          exact ⟨⟨_, by rw [HW.out]; rfl, by rw [HW.out]; exact one_row _ _ _ hz⟩, hBn⟩

abbrev exVs : List Vt := [⟨0, 0, 1⟩, ⟨1, 0, 1⟩, ⟨0, 1, 3⟩, ⟨1, 1, 3⟩]
theorem ex_final : finalL [1, 1, 1] [0, 0, 0, 1, 2] exVs = [0, 1] := by decide +kernel
theorem ex_just : justL [1, 1, 1] [0, 0, 0, 1, 2] exVs = [0, 1, 3] := by decide +kernel
theorem ex_guilt : guiltL 3 [0, 0, 0, 1, 2] exVs = [] := by rfl

theorem ex_v1 : votE ([1, 1, 1] : List Int).length [0, 0, 0, 1, 2] [] ⟨0, 0, 1⟩ = 0 ∧ votV ([1, 1, 1] : List Int).length [0, 0, 0, 1, 2] [] ⟨0, 0, 1⟩ = exVs.take 1 := ⟨by decide +kernel, rfl⟩
theorem ex_v2 : votE ([1, 1, 1] : List Int).length [0, 0, 0, 1, 2] (exVs.take 1) ⟨1, 0, 1⟩ = 0 ∧ votV ([1, 1, 1] : List Int).length [0, 0, 0, 1, 2] (exVs.take 1) ⟨1, 0, 1⟩ = exVs.take 2 := ⟨by decide +kernel, rfl⟩
theorem ex_v3 : votE ([1, 1, 1] : List Int).length [0, 0, 0, 1, 2] (exVs.take 2) ⟨0, 1, 3⟩ = 0 ∧ votV ([1, 1, 1] : List Int).length [0, 0, 0, 1, 2] (exVs.take 2) ⟨0, 1, 3⟩ = exVs.take 3 := ⟨by decide +kernel, rfl⟩
theorem ex_v4 : votE ([1, 1, 1] : List Int).length [0, 0, 0, 1, 2] (exVs.take 3) ⟨1, 1, 3⟩ = 0 ∧ votV ([1, 1, 1] : List Int).length [0, 0, 0, 1, 2] (exVs.take 3) ⟨1, 1, 3⟩ = exVs := ⟨by decide +kernel, rfl⟩
theorem ex_okv : OkV ([1, 1, 1] : List Int).length [0, 0, 0, 1, 2] exVs := ⟨by decide +kernel, by decide +kernel, by decide +kernel, by unfold exVs; simp [List.nodup_cons]⟩

def exPs (i : Nat) : List Int := [0, 0, 0, 1, 2].take (i + 1)
def exP (i : Nat) : Int := ([0, 0, 1, 2] : List Int)[i]?.getD 0
theorem ex_blk : ∀ i : Fin 4, blkN (exPs i) (exP i) = (i : Nat) + 1 ∧ blkE (exPs i) (exP i) = 0 ∧ blkP (exPs i) (exP i) = exPs (i + 1) := by decide +kernel
theorem ex_tree : Tree [0, 0, 0, 1, 2] := ⟨by decide, by decide, rfl, fun i h0 hl => by
  simp at hl
  rcases (by omega : i = 1 ∨ i = 2 ∨ i = 3 ∨ i = 4) with rfl | rfl | rfl | rfl <;> decide⟩
theorem ex_trees (i : Nat) (h : i < 5) : Tree (exPs i) := by
  refine ⟨by unfold exPs; simp, by unfold exPs; simp; omega, ?_, fun j h0 hl => ?_⟩
  · unfold exPs; simp
  · have hl' : j < i + 1 := by unfold exPs at hl; simp at hl; omega
    have e : (exPs i)[j]?.getD 0 = ([0, 0, 0, 1, 2] : List Int)[j]?.getD 0 := by unfold exPs; rw [List.getElem?_take_of_lt hl']
    rw [e]
    exact ex_tree.2.2.2 j h0 (by simp; omega)

set_option maxRecDepth 100000 in
set_option maxHeartbeats 4000000 in
theorem opened_at (v : Value) (ws : List Int) (w : World) (hr : w.ownsRow 0 3 1 v ws.length (ws.map I64)) (hok : okW ws = true) :
    Calls Tryz.prog 20 #[v] w fun e w' => ∃ b S wv pv, e = .returned (.pointer (some ⟨b, 0, none⟩)) ∧ CourtAt w' b S 0 ws [0] [] wv pv (.slice none 0 0) ∧ Below w.heap.size w w' ∧ (∀ k, S k → w.heap.size ≤ k) := by
  have hok3 : okW [1, 1, 1] = true := by rfl
  obtain ⟨gw, capw, rfl, _, _, hcw, _⟩ := row_open hr (okWs_of hok).pos
  clear hr
  have hW3 := okWs_of hok3
  go_enter Tryz.func20, Tryz.ntmps20
  go_wp2_with fail
  refine (new_ok w.heap.size 0 3 [1, 1, 1] _ (fun j hj => ?_) hok3).mono ?_
  · have h3 := heap_alloc_new w (.cells #[I64 1, I64 1, I64 1] 3)
    have hj' : j < 3 := by simpa using hj
    rw [cell_of_heap h3, Nat.zero_add]
    match j, hj' with
    | 0, _ => rfl
    | 1, _ => rfl
    | 2, _ => rfl
  rintro e w1 ⟨b, S, wv, pv, rfl, hC1, hB1, hS1⟩
  have hBw : Below w.heap.size w w1 := ((Below.refl _ w).alloc (Nat.le_refl _) _).trans (hB1.mono (by simp))
  have hSw : ∀ k, S k → w.heap.size ≤ k := fun k hk => by have := hS1 k hk; simp at this; omega
  clear hB1 hS1
  go_wp2
  go_loopw [5] (fun ii wr => ∃ (i : Nat) (S' : Nat → Prop) (pv' : Value), i ≤ 4 ∧ ii = .int .i64 i ∧ CourtAt wr b S' 0 [1, 1, 1] (exPs i) [] wv pv' (.slice none 0 0) ∧ Below w.heap.size w wr ∧ (∀ k, S' k → w.heap.size ≤ k)) (fun ii _ => 4 - (intOf ii).toNat)
  case atStart => exact ⟨0, S, pv, by omega, rfl, hC1, hBw, hSw⟩
  case round =>
    clear hC1 hBw hSw
    obtain ⟨i, S', pv', hi, rfl, hC, hB, hS⟩ := hrel
    by_cases hlt : i < 4
    · obtain ⟨e1, e2, e3⟩ := ex_blk ⟨i, hlt⟩
      dsimp only at e1 e2 e3
      have hz := hB.size
      have hCa := hC.kept (Chg.alloc (Chg.refl (fun _ => False) wr) (.cells #[I64 0, I64 0, I64 1, I64 2] 3)) (fun _ _ hf => hf)
      have hbk := block_at b S' [1, 1, 1] (exPs i) [] wv pv' _ (exP i) _ hCa (ex_trees i (by omega)) (by simp)
      rw [e1, e2, e3] at hbk
      clear e1 e2 e3 hCa
      rcases (by omega : i = 0 ∨ i = 1 ∨ i = 2 ∨ i = 3) with rfl | rfl | rfl | rfl
      all_goals
        go_wp2_with fail
        refine hbk.mono ?_
        rintro e w2 ⟨rfl, S2, pv2, hC2, hc2, hs2⟩
        clear hbk
        go_wp2
        go_roundw
        case rel =>
          refine ⟨_, S2, pv2, ?_, ?_, hC2, ?_, fun k hk => ?_⟩
          · omega
          · rfl
          · exact (hB.alloc hz _).trans (hc2.below (by simp; omega) (fun k hk hs => by have := hS k hs; omega))
          · rcases hs2 k hk with h1 | h1
            · exact hS k h1
            · simp at h1; omega
        case measure => simp [intOf]
    · have hi' : i = 4 := by omega
      subst hi'
      have hps : exPs 4 = [0, 0, 0, 1, 2] := rfl
      rw [hps] at hC
      clear hps hlt hi
      have hW1 : (0 : Nat) < ([1, 1, 1] : List Int).length := by decide
      have hv1 := fun W (S' : Nat → Prop) vv (hC : CourtAt W b S' 0 [1, 1, 1] [0, 0, 0, 1, 2] [] wv pv' vv) => vote_at b S' [1, 1, 1] [0, 0, 0, 1, 2] [] wv pv' vv 0 0 1 W hC ex_tree hW1 (by simp)
      have hv2 := fun W (S' : Nat → Prop) vv (hC : CourtAt W b S' 0 [1, 1, 1] [0, 0, 0, 1, 2] (exVs.take 1) wv pv' vv) => vote_at b S' [1, 1, 1] [0, 0, 0, 1, 2] (exVs.take 1) wv pv' vv 1 0 1 W hC ex_tree hW1 (by simp)
      have hv3 := fun W (S' : Nat → Prop) vv (hC : CourtAt W b S' 0 [1, 1, 1] [0, 0, 0, 1, 2] (exVs.take 2) wv pv' vv) => vote_at b S' [1, 1, 1] [0, 0, 0, 1, 2] (exVs.take 2) wv pv' vv 0 1 3 W hC ex_tree hW1 (by simp)
      have hv4 := fun W (S' : Nat → Prop) vv (hC : CourtAt W b S' 0 [1, 1, 1] [0, 0, 0, 1, 2] (exVs.take 3) wv pv' vv) => vote_at b S' [1, 1, 1] [0, 0, 0, 1, 2] (exVs.take 3) wv pv' vv 1 1 3 W hC ex_tree hW1 (by simp)
      rw [ex_v1.1, ex_v1.2] at hv1
      rw [ex_v2.1, ex_v2.2] at hv2
      rw [ex_v3.1, ex_v3.2] at hv3
      rw [ex_v4.1, ex_v4.2] at hv4
      have grow : ∀ {W W' : World} {S1 S2 : Nat → Prop}, Below w.heap.size w W → (∀ k, S1 k → w.heap.size ≤ k) → Chg S1 W W' → (∀ k, S2 k → S1 k ∨ W.heap.size ≤ k) → Below w.heap.size w W' ∧ (∀ k, S2 k → w.heap.size ≤ k) := fun hB hS hc hs =>
        ⟨hB.trans (hc.below hB.size (fun k hk h1 => by have := hS k h1; omega)), fun k hk => (hs k hk).elim (hS k) (fun h => Nat.le_trans hB.size h)⟩
      go_wp2_with fail
      refine (hv1 _ _ _ hC).mono ?_
      rintro e w2 ⟨rfl, S2, vv2, hC2, hc2, hs2⟩
      obtain ⟨hB2, hS2⟩ := grow hB hS hc2 hs2
      clear hC hB hS hc2 hs2 hv1
      go_wp2_with fail
      refine (hv2 _ _ _ hC2).mono ?_
      rintro e w3 ⟨rfl, S3, vv3, hC3, hc3, hs3⟩
      obtain ⟨hB3, hS3⟩ := grow hB2 hS2 hc3 hs3
      clear hC2 hB2 hS2 hc3 hs3 hv2
      go_wp2_with fail
      refine (hv3 _ _ _ hC3).mono ?_
      rintro e w4 ⟨rfl, S4, vv4, hC4, hc4, hs4⟩
      obtain ⟨hB4, hS4⟩ := grow hB3 hS3 hc4 hs4
      clear hC3 hB3 hS3 hc4 hs4 hv3
      go_wp2_with fail
      refine (hv4 _ _ _ hC4).mono ?_
      rintro e w5 ⟨rfl, S5, vv5, hC5, hc5, hs5⟩
      obtain ⟨hB5, hS5⟩ := grow hB4 hS4 hc5 hs5
      clear hC4 hB4 hS4 hc5 hs5 hv4
      have hf := fun W hC => final_at b S5 [1, 1, 1] [0, 0, 0, 1, 2] exVs wv pv' vv5 W hC ex_tree hW3 (by simp) ex_okv
      have hj := fun W hC => just_at b S5 [1, 1, 1] [0, 0, 0, 1, 2] exVs wv pv' vv5 W hC ex_tree hW3 (by simp) ex_okv
      have hg := fun W hC => guilty_at b S5 [1, 1, 1] [0, 0, 0, 1, 2] exVs wv pv' vv5 W hC ex_tree hW3 (by simp) ex_okv
      rw [ex_final] at hf
      rw [ex_just] at hj
      have hgl : ([1, 1, 1] : List Int).length = 3 := rfl
      rw [hgl, ex_guilt] at hg
      go_wp2_with fail
      refine (hf _ hC5).mono ?_
      rintro e w6 ⟨⟨vf, rfl, hrf⟩, hC6, hc6⟩
      obtain ⟨hB6, _⟩ := grow hB5 hS5 hc6 (S2 := S5) (fun k hk => .inl hk)
      have hlf := hC5.lt
      clear hf hC5 hB5 hc6
      go_wp2_with fail
      refine (hj _ hC6).mono ?_
      rintro e w7 ⟨⟨vj, rfl, hrj⟩, hC7, hc7⟩
      obtain ⟨hB7, _⟩ := grow hB6 hS5 hc7 (S2 := S5) (fun k hk => .inl hk)
      have hnf : ∀ k, vf.ownBlock = some k → ¬ S5 k := fun k hk hs => by have := (hrf.lt k hk).1; have := hlf k hs; omega
      have hrf7 := hc7.row hrf hnf
      clear hj hC6 hB6 hc7 hnf hlf hrf
      obtain ⟨gf, capf, hvf, _, _, hcf, _⟩ := row_open (xs := [0, 1]) (row_low hrf7) (by decide)
      have hvf' : vf = .slice (some ⟨gf, 0, none⟩) 2 capf := hvf
      have hf0 := hcf 0 (by decide)
      have hf1 := hcf 1 (by decide)
      have hf0' : w7.cell? ⟨gf, 0, none⟩ = some (I64 0) := hf0
      have hf1' : w7.cell? ⟨gf, 1, none⟩ = some (I64 1) := hf1
      subst hvf'
      obtain ⟨gj, capj, hvj, _, _, _, _⟩ := row_open (xs := [0, 1, 3]) (row_low hrj) (by decide)
      have hvj' : vj = .slice (some ⟨gj, 0, none⟩) 3 capj := hvj
      subst hvj'
      clear hvf hvj hf0 hf1 hcf hrj hrf7
      go_wp2_with fail
      refine (hg _ hC7).mono ?_
      rintro e w8 ⟨⟨vg, rfl, hrg⟩, hC8, hc8⟩
      obtain ⟨hB8, _⟩ := grow hB7 hS5 hc8 (S2 := S5) (fun k hk => .inl hk)
      clear hg hC7 hB7 hc8 hC8
      have hI : ∀ j, j < ws.length → w8.cell? ⟨gw, 0 + j, none⟩ = some (I64 (ws[j]?.getD 0)) := fun j hj => by
        rw [Nat.zero_add]
        exact (hB8.cell (p := ⟨gw, j, none⟩) (World.block_lt_of_cell? w _ (hcw j hj))).trans (hcw j hj)
      have hnw := new_ok gw 0 capw ws w8 hI hok
      obtain ⟨cg, pg, hvg⟩ : ∃ cg pg, vg = .slice pg 0 cg := by
        rcases hrg.2 with ⟨h1, _⟩ | ⟨g, cap, cur, h1, _⟩
        · exact ⟨0, none, h1⟩
        · exact ⟨cap, _, h1⟩
      subst hvg
      clear hrg hI
      go_wp2_with fail
      refine hnw.mono ?_
      rintro e w9 ⟨bx, Sx, wx, px, rfl, hCx, hBx, hSx⟩
      clear hnw
      go_wp2
      go_ret
      exact ⟨bx, Sx, wx, px, rfl, hCx, hB8.trans (hBx.mono hB8.size), fun k hk => Nat.le_trans hB8.size (hSx k hk)⟩
end Go.Proofs.YtgebcnnenhgkcaaGreat
