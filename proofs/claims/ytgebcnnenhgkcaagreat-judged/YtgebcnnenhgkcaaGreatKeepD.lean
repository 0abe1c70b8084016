/- The statements without the document's answer: voted. -/
import Derived.Test.YtgebcnnenhgkcaaGreatKeepC
namespace Go.Proofs.YtgebcnnenhgkcaaGreat
open Go.RowKit

theorem quo_bounds (r d : Int) (hd : 0 < d) (h : -9223372036854775808 ≤ r ∧ r ≤ 9223372036854775807) : -9223372036854775808 ≤ r.tdiv d ∧ r.tdiv d ≤ 9223372036854775807 := by
  by_cases h0 : 0 ≤ r
  · rw [Int.tdiv_eq_ediv_of_nonneg h0]
    have h1 := Int.ediv_nonneg h0 (Int.le_of_lt hd)
    have h2 := Int.ediv_le_self d h0
    omega
  · have e : r.tdiv d = -((-r).tdiv d) := by rw [Int.neg_tdiv, Int.neg_neg]
    rw [e, Int.tdiv_eq_ediv_of_nonneg (by omega)]
    have h1 := Int.ediv_nonneg (a := -r) (by omega) (Int.le_of_lt hd)
    have h2 := Int.ediv_le_self d (a := -r) (by omega)
    omega
theorem quo_1000 (r : Int) (h : -9223372036854775808 ≤ r ∧ r ≤ 9223372036854775807) : -9223372036854776 ≤ r.tdiv 1000 ∧ r.tdiv 1000 ≤ 9223372036854776 := by
  by_cases h0 : 0 ≤ r
  · rw [Int.tdiv_eq_ediv_of_nonneg h0]
    omega
  · have e : r.tdiv 1000 = -((-r).tdiv 1000) := by rw [Int.neg_tdiv, Int.neg_neg]
    rw [e, Int.tdiv_eq_ediv_of_nonneg (by omega)]
    omega

theorem wrap_quo (r d : Int) (hd : 0 < d) (h : -9223372036854775808 ≤ r ∧ r ≤ 9223372036854775807) : -9223372036854775808 ≤ IntKind.i64.wrap (r.tdiv d) ∧ IntKind.i64.wrap (r.tdiv d) ≤ 9223372036854775807 := by
  have hq := quo_bounds r d hd h
  rw [Go.IntWalk.i64_in _ (by omega)]
  exact hq
/-- pick gives one of n. -/
theorem pick_some (c n : Int) (w : World) (hn : 0 < n) (hn2 : n ≤ 1000) (hc : -9223372036854775808 ≤ c ∧ c ≤ 9223372036854775807) :
    ∃ y, 0 ≤ y ∧ y < n ∧ Calls Tryz.prog 23 #[.int .i64 c, .int .i64 n] w fun e w' => e = .returned (.int .i64 y) ∧ w' = w :=
  ⟨pickF c n, (pickF_bounds c hn).1, (pickF_bounds c hn).2, pick_at c n w hn hn2 hc⟩

set_option maxRecDepth 100000 in
set_option maxHeartbeats 4000000 in
theorem voted_at (b : Nat) (S0 : Nat → Prop) (ws : List Int) (wv pv : Value) (p : Option Addr) (c : Nat) (raw : List Int) (w : World) (hC : CourtAt w b S0 0 ws [0] [] wv pv (.slice none 0 0)) (hW : OkWs ws) (hx : IntsAt w p raw) (hxs : ∀ a, p = some a → ¬ S0 a.block)
    (hl : raw.length ≤ maxLen) (hb : ∀ r ∈ raw, -9223372036854775808 ≤ r ∧ r ≤ 9223372036854775807) :
    Calls Tryz.prog 21 #[.pointer (some ⟨b, 0, none⟩), .int .i64 ws.length, .slice p raw.length c] w fun e w' =>
      ∃ bt S ps vs pv' vv' gT capT lv, e = .returned (.tuple #[.pointer (some ⟨bt, 0, none⟩), lv]) ∧ Kept w w' b bt S0 S ws ps ps vs vs wv pv' vv' gT capT lv ∧ Tree ps ∧ OkV ws.length ps vs ∧ vs.length ≤ 300 := by
  obtain ⟨i0, hi, hz0, hz1, hz2⟩ := info_parts info_int
  obtain ⟨i1, hj, hy0, hy1, hy2⟩ := info_parts info_vote
  have hl' : raw.length ≤ 9223372036854775807 := by unfold maxLen at hl; omega
  have hw12 := hW.le
  have HB : Hid (∀ r ∈ raw, -9223372036854775808 ≤ r ∧ r ≤ 9223372036854775807) := hb
  clear hb hl
  go_enter Tryz.func21, Tryz.ntmps21
  go_wp2_with fail
  go_loopw [9, 10] (fun lv ii wr => ∃ (k : Nat) (S : Nat → Prop) (ps : List Int) (vs : List Vt) (pv' vv' : Value) (gT capT : Nat), k ≤ raw.length ∧ k ≤ 400 ∧ ii = .int .i64 k ∧ Kept w wr b (w.heap.size + 1) S0 S ws ps ps vs vs wv pv' vv' gT capT lv ∧ Tree ps ∧ OkV ws.length ps vs ∧ vs.length ≤ 300) (fun _ ii _ => 400 - (intOf ii).toNat)
  case atStart =>
    refine ⟨0, S0, [0], [], pv, .slice none 0 0, w.heap.size, 1, by omega, by omega, rfl, ?_, ⟨by decide, by decide, rfl, fun i h1 h2 => by simp at h2; omega⟩, ⟨by simp, by simp, by simp, by simp⟩, by simp⟩
    have hc : Chg (fun _ => False) w ((w.alloc (.cells #[I64 0] 3)).alloc (.cells #[.slice (some ⟨w.heap.size, 0, none⟩) 1 1] 68)) := ((Chg.refl _ w).alloc _).alloc _
    refine ⟨hC.kept hc (fun _ _ hf => hf), ?_, ?_, World.ownsRow_nil _ _ _ _, fun hk => ?_, fun hk => ?_, fun k hk => by simp [Value.ownBlock] at hk, by omega, by omega, fun k hk => by simp [Value.ownBlock] at hk, hc.mono (fun _ _ hf => hf.elim), fun k hk => .inl hk⟩
    · have := heap_alloc_new (w.alloc (.cells #[I64 0] 3)) (.cells #[.slice (some ⟨w.heap.size, 0, none⟩) 1 1] 68)
      simpa using this
    · exact row_low ((one_row w w.heap.size 0 (Nat.le_refl _)).alloc _)
    · have := hC.lt _ hk; omega
    · have := hC.lt _ hk; omega
  case round =>
    clear hC
    obtain ⟨k, S, ps, vs, pv', vv', gT, capT, hk, hk400, rfl, hK, hT, hO, hvl⟩ := hrel
    have hT1 := hT.1
    have hT2 := hT.2.1
    have hc0 := hK.c0
    by_cases hlt : k < raw.length
    · have hlt' : (k : Int) < (raw.length : Int) := by omega
      by_cases h400 : k < 400
      · have h400' : (k : Int) < 400 := by omega
        rcases hx with rfl | ⟨g, o, rfl, hcs⟩
        · simp at hlt
        obtain ⟨r, hr⟩ : ∃ r, raw[k]? = some r := ⟨_, List.getElem?_eq_getElem hlt⟩
        have hgS : ¬ S0 g := hxs _ rfl
        have hcw : w.cell? ⟨g, o + k, none⟩ = some (I64 r) := by
          have h1 := hcs k hlt
          rw [hr] at h1
          exact h1
        have hcr : wr.cell? ⟨g, o + k, none⟩ = some (I64 r) := hK.chg.cell hcw hgS
        have hrb := HB.out r (List.mem_of_getElem? hr)
        clear hr hcs
        have hp5 := pick_at r 5 wr (by omega) (by omega) hrb
        obtain ⟨y5, hy5⟩ : ∃ y, pickF r 5 = y := ⟨_, rfl⟩
        rw [hy5] at hp5
        clear hy5
        by_cases hbr : y5 = 0 ∧ ps.length < 40
        · obtain ⟨rfl, h40⟩ := hbr
          have h40' : (ps.length : Int) < 40 := by omega
          go_wp2_with fail
          refine hp5.mono ?_
          rintro e w2 ⟨rfl, rfl⟩
          clear hp5
          go_wp2_with fail
          obtain ⟨y, hy0', hy1', hpy⟩ := pick_some (IntKind.i64.wrap (r.tdiv 5)) ps.length w2.drew (by omega) (by omega) (wrap_quo r 5 (by omega) hrb)
          go_region_held3 (fun w' => w'.cell? ⟨g, o + k, none⟩ = some (I64 r) ∧ w'.cell? ⟨w.heap.size + 1, 0, none⟩ = some (.slice (some ⟨gT, 0, none⟩) ps.length capT))
            (first | (refine ⟨by assumption, by assumption⟩) | (refine ⟨?_, ?_⟩ <;> simpa))
            ((go_at_call 23; refine hpy.mono ?_; rintro e w3 ⟨rfl, rfl⟩))
          obtain ⟨y3, _, _, hp3⟩ := pick_some (r.tdiv 300) 3 w2.drew (by omega) (by omega) (quo_bounds r 300 (by omega) hrb)
          go_wp2_with fail
          refine hp3.mono ?_
          rintro e w3 ⟨rfl, rfl⟩
          clear hp3 hpy
          by_cases h3 : 0 < y3
          · go_wp2_with fail
            have hKd := hK.on (Chg.drew (Chg.refl (fun _ => False) w2))
            have hP0 : 0 ≤ (ps.length : Int) - 1 := by omega
            have hP1 : (ps.length : Int) - 1 < ps.length := by omega
            have hbk := block_at b S ws ps vs wv pv' vv' ((ps.length : Int) - 1) _ hKd.court hT hW.pos
            obtain ⟨e1, e2, e3⟩ := blk_room hP0 hP1 h40
            have hTn := blkP_tree hT ((ps.length : Int) - 1)
            rw [e3] at hTn
            rw [e1, e2, e3] at hbk
            clear e1 e2 e3 hc0 hcr
            refine hbk.mono ?_
            rintro e w4 ⟨rfl, S2, pv2, hC2, hc2, hs2⟩
            clear hbk
            have hK2 := hKd.move hC2 hc2 hs2
            have hc4 := hK2.c0
            have hf4 := hK2.fz
            have hlb4 := hK2.lt_b
            have hTb : gT ≠ w.heap.size + 1 := fun e => not_row hK2.trow hK2.tcell (by decide) (by rw [← e]; rfl)
            have h63 : Hid (ps.length + 1 ≤ maxLen) := by show _ ≤ _; unfold maxLen; omega
            clear hC2 hc2 hs2 hK hKd
            go_wp2_with (at_builtin; refine wpList_append_lies _ (by rfl) _ _ _ (by rfl) 0 3 i0 (I64 0) 1 8 Tryz.underlying22 hi hz0 hz1 hz2 rfl (by omega) (.slice (some ⟨gT, 0, none⟩) ps.length capT) ps.length (ps.map I64) (by rfl) (hK2.trow.alloc _) ⟨w4.heap.size, 0, none⟩ 1 1 [I64 ((ps.length : Int) - 1)] (by rfl) (by rfl) (cell_one_new _ _ _) (by simp [Value.oneCell']) (by omega) h63.out (by omega) (Nat.zero_le _) (w4.heap.size + 1) (by simp) ?_; intro g1 cap1 w1 hown hgrow hat hlt1; have hb1 : w1.heap[w.heap.size + 1]? = w4.heap[w.heap.size + 1]? := (hgrow.block (w.heap.size + 1) (by simp; omega) (by simp [Value.ownBlock]; omega)).trans (Below.heap_alloc w4 _ _ hlb4); have hx3 : w1.cell? ⟨w.heap.size + 1, 0, none⟩ = some (.slice (some ⟨gT, 0, none⟩) ps.length capT) := (World.cell?_of_block hb1).trans hc4; have hxf : w1.frozen? ⟨w.heap.size + 1, 0, none⟩ = false := (World.frozen?_of_block hb1).trans hf4; clear hb1)
            have hcT : Chg (fun k => k = gT) w4 w1 := ((Chg.refl _ w4).alloc _).grown hgrow (fun k e => .inl (by simp [Value.ownBlock] at e; exact e.symm))
            have hKn := hK2.layT (p := (ps.length : Int) - 1) (g := g1) (cap := cap1) hcT (by simpa using hown) (hat.elim (fun e => .inl (by simp [Value.ownBlock] at e; exact e.symm)) (fun e => .inr (by omega)))
            have hln : (ps ++ [(ps.length : Int) - 1]).length = ps.length + 1 := by simp
            rw [hln] at hKn
            clear hln
            go_roundw
            case rel => exact ⟨k + 1, S2, ps ++ [(ps.length : Int) - 1], vs, pv2, vv', g1, cap1, by omega, by omega, by go_num, hKn, hTn, okv_blk hO hT hTn, hvl⟩
            case measure => simp [intOf]; omega
          · go_wp2_with fail
            have hKd := hK.on (Chg.drew (Chg.refl (fun _ => False) w2))
            have hP0 : 0 ≤ y := by omega
            have hP1 : y < ps.length := by omega
            have hbk := block_at b S ws ps vs wv pv' vv' (y) _ hKd.court hT hW.pos
            obtain ⟨e1, e2, e3⟩ := blk_room hP0 hP1 h40
            have hTn := blkP_tree hT (y)
            rw [e3] at hTn
            rw [e1, e2, e3] at hbk
            clear e1 e2 e3 hc0 hcr
            refine hbk.mono ?_
            rintro e w4 ⟨rfl, S2, pv2, hC2, hc2, hs2⟩
            clear hbk
            have hK2 := hKd.move hC2 hc2 hs2
            have hc4 := hK2.c0
            have hf4 := hK2.fz
            have hlb4 := hK2.lt_b
            have hTb : gT ≠ w.heap.size + 1 := fun e => not_row hK2.trow hK2.tcell (by decide) (by rw [← e]; rfl)
            have h63 : Hid (ps.length + 1 ≤ maxLen) := by show _ ≤ _; unfold maxLen; omega
            clear hC2 hc2 hs2 hK hKd
            go_wp2_with (at_builtin; refine wpList_append_lies _ (by rfl) _ _ _ (by rfl) 0 3 i0 (I64 0) 1 8 Tryz.underlying22 hi hz0 hz1 hz2 rfl (by omega) (.slice (some ⟨gT, 0, none⟩) ps.length capT) ps.length (ps.map I64) (by rfl) (hK2.trow.alloc _) ⟨w4.heap.size, 0, none⟩ 1 1 [I64 (y)] (by rfl) (by rfl) (cell_one_new _ _ _) (by simp [Value.oneCell']) (by omega) h63.out (by omega) (Nat.zero_le _) (w4.heap.size + 1) (by simp) ?_; intro g1 cap1 w1 hown hgrow hat hlt1; have hb1 : w1.heap[w.heap.size + 1]? = w4.heap[w.heap.size + 1]? := (hgrow.block (w.heap.size + 1) (by simp; omega) (by simp [Value.ownBlock]; omega)).trans (Below.heap_alloc w4 _ _ hlb4); have hx3 : w1.cell? ⟨w.heap.size + 1, 0, none⟩ = some (.slice (some ⟨gT, 0, none⟩) ps.length capT) := (World.cell?_of_block hb1).trans hc4; have hxf : w1.frozen? ⟨w.heap.size + 1, 0, none⟩ = false := (World.frozen?_of_block hb1).trans hf4; clear hb1)
            have hcT : Chg (fun k => k = gT) w4 w1 := ((Chg.refl _ w4).alloc _).grown hgrow (fun k e => .inl (by simp [Value.ownBlock] at e; exact e.symm))
            have hKn := hK2.layT (p := y) (g := g1) (cap := cap1) hcT (by simpa using hown) (hat.elim (fun e => .inl (by simp [Value.ownBlock] at e; exact e.symm)) (fun e => .inr (by omega)))
            have hln : (ps ++ [y]).length = ps.length + 1 := by simp
            rw [hln] at hKn
            clear hln
            go_roundw
            case rel => exact ⟨k + 1, S2, ps ++ [y], vs, pv2, vv', g1, cap1, by omega, by omega, by go_num, hKn, hTn, okv_blk hO hT hTn, hvl⟩
            case measure => simp [intOf]; omega
        · have hbr' : (y5 == 0) = false ∨ (y5 = 0 ∧ ¬ (ps.length : Int) < 40) := by
            by_cases e : y5 = 0
            · exact .inr ⟨e, by omega⟩
            · exact .inl (by simpa using e)
          clear hbr
          rcases hbr' with hq | ⟨rfl, hq⟩
          all_goals
            go_wp2_with fail
            refine hp5.mono ?_
            rintro e w2 ⟨rfl, rfl⟩
            clear hp5
            go_wp2_with fail
            obtain ⟨y, hy0', hy1', hpy⟩ := pick_some (IntKind.i64.wrap (r.tdiv 5)) ps.length w2.drew (by omega) (by omega) (wrap_quo r 5 (by omega) hrb)
            go_region_held3 (fun w' => w'.cell? ⟨g, o + k, none⟩ = some (I64 r) ∧ w'.cell? ⟨w.heap.size + 1, 0, none⟩ = some (.slice (some ⟨gT, 0, none⟩) ps.length capT))
              (first | (refine ⟨by assumption, by assumption⟩) | (refine ⟨?_, ?_⟩ <;> simpa))
              ((go_at_call 23; refine hpy.mono ?_; rintro e w3 ⟨rfl, rfl⟩))
            clear hpy
            generalize IntKind.i64.wrap (r.tdiv 5) = z5
            go_wp2_with fail
            obtain ⟨y2, hy20, hy21, hp2⟩ := pick_some (r.tdiv 200) 3 w2.drew (by omega) (by omega) (quo_bounds r 200 (by omega) hrb)
            have hKd := hK.on (Chg.drew (Chg.refl (fun _ => False) w2))
            have hA := hKd.treeAt hT1
            have hcd := hKd.c0
            clear hK hc0 hcr
            refine hp2.mono ?_
            rintro e w3 ⟨rfl, rfl⟩
            clear hp2
            generalize r.tdiv 200 = z2
            go_wp2_with fail
            go_loop [15, 16] (fun a kk => ∃ (x : Int) (m : Nat), a = .int .i64 x ∧ kk = .int .i64 m ∧ 0 ≤ x ∧ x.toNat < ps.length ∧ m ≤ 3) (fun _ kk => (intOf kk).toNat)
            case atStart => exact ⟨y, (1 + y2).toNat, rfl, by rw [Int.toNat_of_nonneg (by omega)], by omega, by omega, by omega⟩
            case round =>
              obtain ⟨x, m, rfl, rfl, hx0, hx1, hm3⟩ := hrel
              by_cases hm : 0 < m
              · have hm' : (m : Int) > 0 := by omega
                obtain ⟨p', hpe⟩ : ∃ p', ps[x.toNat]?.getD 0 = p' := ⟨_, rfl⟩
                have hcx : w2.drew.cell? ⟨gT, x.toNat, none⟩ = some (.int .i64 p') := by rw [← hpe]; exact hA.cs _ hx1
                have hpr : 0 ≤ p' ∧ p'.toNat < ps.length := by
                  rw [← hpe]
                  by_cases hz : x.toNat = 0
                  · rw [hz, hT.2.2.1]; exact ⟨by omega, by simpa using hT1⟩
                  · have := hT.2.2.2 x.toNat (by omega) hx1
                    omega
                clear hpe
                go_wp2
                go_round
                case rel => exact ⟨p', m - 1, rfl, by rw [Int.ofNat_sub (by omega)]; rfl, hpr.1, hpr.2, by omega⟩
                case measure => simp [intOf]; omega
              · have hm0 : m = 0 := by omega
                subst hm0
                go_wp2_with fail
                go_loopw [9, 17] (fun lv kk wq => ∃ (q : Nat) (S : Nat → Prop) (vs : List Vt) (pv' vv' : Value), q ≤ ws.length ∧ kk = .int .i64 q ∧ Kept w wq b (w.heap.size + 1) S0 S ws ps ps vs vs wv pv' vv' gT capT lv ∧ OkV ws.length ps vs ∧ vs.length ≤ 300) (fun _ kk _ => ws.length - (intOf kk).toNat)
                case atStart => exact ⟨0, S, vs, pv', vv', by omega, rfl, hKd, hO, hvl⟩
                case round =>
                  clear hKd hO hvl hA hcd
                  obtain ⟨q, S, vs, pv', vv', hq1, rfl, hK, hO, hvl⟩ := hrel
                  have hcr : wr.cell? ⟨g, o + k, none⟩ = some (I64 r) := hK.chg.cell hcw hgS
                  by_cases hqlt : q < ws.length
                  · have hqlt' : (q : Int) < (ws.length : Int) := by omega
                    have hq12 : (q : Int) < 12 := by omega
                    obtain ⟨y4, _, _, hp4⟩ := pick_some (wrap64 (r.tdiv 1000 + q)) 4 wr (by omega) (by omega) (by have := quo_1000 r hrb; unfold wrap64; omega)
                    go_wp2_with fail
                    refine hp4.mono ?_
                    rintro e w3 ⟨rfl, rfl⟩
                    clear hp4
                    by_cases h4 : y4 = 0
                    · subst h4
                      go_wp2
                      go_roundw
                      case rel => exact ⟨q + 1, S, vs, pv', vv', by omega, by go_num, hK, hO, hvl⟩
                      case measure => simp [intOf]; omega
                    · have h4b : (y4 == 0) = false := by simpa using h4
                      by_cases hyz : y = 0
                      · have hyb : (y == 0) = true := by simpa using hyz
                        clear hyz
                        go_wp2
                        go_roundw
                        case rel => exact ⟨q + 1, S, vs, pv', vv', by omega, by go_num, hK, hO, hvl⟩
                        case measure => simp [intOf]; omega
                      · have hyb : (y == 0) = false := by simpa using hyz
                        clear hyz h4
                        have hv := vote_at b S ws ps vs wv pv' vv' q x y w3 hK.court hT hW.pos hvl
                        rcases vot_cases hO hvl ⟨q, x, y⟩ with ⟨e1, e2, hO2, hl2⟩ | ⟨e1, e2⟩
                        · rw [e1, e2] at hv
                          clear e1 e2
                          go_wp2_with fail
                          refine hv.mono ?_
                          rintro e w4 ⟨rfl, S2, vv2, hC2, hc2, hs2⟩
                          clear hv
                          have hK2 := hK.move hC2 hc2 hs2
                          have h63 : Hid (vs.length + 1 ≤ maxLen) := by show _ ≤ _; unfold maxLen; omega
                          clear hC2 hc2 hs2 hK hcr
                          go_wp2_with (at_builtin; refine wpList_append_lies _ (by rfl) _ _ _ (by rfl) 0 47 i1 (.agg #[I64 0, I64 0, I64 0]) 3 24 Tryz.underlying39 hj hy0 hy1 hy2 rfl (by omega) _ vs.length (vtRow vs) (by rfl) (hK2.lrow.alloc _) ⟨w4.heap.size, 0, none⟩ 1 1 [I64 q, I64 x, I64 y] (by rfl) (by rfl) (cells_one _ #[I64 q, I64 x, I64 y] _) (by simp [Value.oneCell']) (by omega) h63.out (by omega) (Nat.zero_le _) (w4.heap.size + 1) (by simp) ?_; intro g1 cap1 w1 hown hgrow hat hlt1)
                          have hcL := ((Chg.refl (fun k => Value.ownBlock u9 = some k) w4).alloc _).grown hgrow (fun k e => .inl e)
                          have hKn := hK2.layL (x := ⟨q, x, y⟩) hcL (by rw [vtRow_append, List.length_append]; exact hown) (fun k e => by
                            simp [Value.ownBlock] at e; subst e
                            exact hat.imp id (fun e => by omega))
                          go_roundw
                          case rel => exact ⟨q + 1, S2, vs ++ [⟨q, x, y⟩], pv', vv2, by omega, by go_num, hKn, hO2, hl2⟩
                          case measure => simp [intOf]; omega
                        · rw [e2] at hv
                          obtain ⟨ee, hee⟩ : ∃ ee, votE ws.length ps vs ⟨q, x, y⟩ = ee := ⟨_, rfl⟩
                          rw [hee] at hv e1
                          clear e2 hee
                          go_wp2_with fail
                          refine hv.mono ?_
                          rintro e w4 ⟨rfl, S2, vv2, hC2, hc2, hs2⟩
                          clear hv
                          have hK2 := hK.move hC2 hc2 hs2
                          clear hC2 hc2 hs2 hK hcr
                          go_wp2
                          go_roundw
                          case rel => exact ⟨q + 1, S2, vs, pv', vv2, by omega, by go_num, hK2, hO, hvl⟩
                          case measure => simp [intOf]; omega
                  · go_wp2
                    go_roundw
                    case rel => exact ⟨k + 1, S, ps, vs, pv', vv', gT, capT, by omega, by omega, by go_num, hK, hT, hO, hvl⟩
                    case measure => simp [intOf]; omega
      · go_wp2
        go_ret2
        exact ⟨_, S, ps, vs, pv', vv', gT, capT, _, rfl, hK, hT, hO, hvl⟩
    · go_wp2
      go_ret2
      exact ⟨_, S, ps, vs, pv', vv', gT, capT, _, rfl, hK, hT, hO, hvl⟩
end Go.Proofs.YtgebcnnenhgkcaaGreat
