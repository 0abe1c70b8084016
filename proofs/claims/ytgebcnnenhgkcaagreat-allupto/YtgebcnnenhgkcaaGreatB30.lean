/- The caller's lists: still. -/
import Derived.Test.YtgebcnnenhgkcaaGreatB29
import Derived.Test.YtgebcnnenhgkcaaGreatB23
import Derived.Test.YtgebcnnenhgkcaaGreatB16
import Derived.Test.YtgebcnnenhgkcaaGreatB22
import Derived.Test.YtgebcnnenhgkcaaGreatB27
namespace Go.Proofs.YtgebcnnenhgkcaaGreat
open Go.RowKit Go.Shelf

set_option maxRecDepth 100000 in
set_option maxHeartbeats 8000000 in
theorem still_at (w : World) (col : Nat → Nat) (bw : Nat) (vc vi vg vl : Value) (I G L : List Value) (hS : LSt w col bw vc vi vg vl I G L) (hI : I.length ≤ 1000000000) (hG : G.length ≤ 1000000000) (hL : L.length ≤ 1000000000) :
    Calls Tryz.prog 18 #[.pointer (some ⟨bw, 0, none⟩)] w fun e w' => e = .returned (.bool true) ∧ Below w.heap.size w w' := by
  obtain ⟨pi, ci, hvi⟩ := row_slice hS.sI.row
  obtain ⟨pg, cg, hvg⟩ := row_slice hS.sG.row
  obtain ⟨pl, cl, hvl⟩ := row_slice hS.sL.row
  subst hvi hvg hvl
  have hb1 : w.cell? ⟨bw, 1, none⟩ = some (.slice pi I.length ci) := by rw [cell_of_heap hS.hb]; rfl
  have hb2 : w.cell? ⟨bw, 2, none⟩ = some (.slice pg G.length cg) := by rw [cell_of_heap hS.hb]; rfl
  have hb3 : w.cell? ⟨bw, 3, none⟩ = some (.slice pl L.length cl) := by rw [cell_of_heap hS.hb]; rfl
  have hbl : bw < w.heap.size := (Array.getElem?_eq_some_iff.1 hS.hb).1
  have HS : Hid _ := hS
  clear hS
  go_enter Tryz.func18, Tryz.ntmps18
  go_wp2_with fail
  go_loopw [3] (fun ii wr => ∃ k : Nat, k ≤ I.length ∧ ii = .int .i64 k ∧ Below w.heap.size w wr) (fun ii _ => I.length - (intOf ii).toNat)
  case atStart => exact ⟨0, by omega, rfl, Below.refl _ _⟩
  case round =>
    obtain ⟨k, hk, rfl, hB⟩ := hrel
    have c1 := (hB.cell (p := ⟨bw, 1, none⟩) hbl).trans hb1
    by_cases hlt : k < I.length
    · have hlt' : (k : Int) < (I.length : Int) := by omega
      obtain ⟨u, hu⟩ : ∃ u, I[k]? = some u := ⟨_, List.getElem?_eq_getElem hlt⟩
      obtain ⟨gr, cr, he, _, hcr⟩ := one_cell HS.out.sI.row hu
      simp only [Value.slice.injEq, true_and] at he
      obtain ⟨rfl, rfl⟩ := he
      have hgl := World.block_lt_of_cell? w _ hcr
      obtain ⟨p, n, c, rfl, hn, hm⟩ := HS.out.sI.each k u hu
      have hn' : n ≤ 9223372036854775807 := by unfold maxLen at hn; omega
      clear hn hu
      go_wp2_with fail
      go_loopw [4] (fun jj wr => ∃ j : Nat, j ≤ n ∧ jj = .int .i64 j ∧ Below w.heap.size w wr) (fun jj _ => n - (intOf jj).toNat)
      case atStart => exact ⟨0, by omega, rfl, hB⟩
      case round =>
        clear hB c1
        obtain ⟨j, hj, rfl, hB⟩ := hrel
        have c1 := (hB.cell (p := ⟨bw, 1, none⟩) hbl).trans hb1
        have c2 := (hB.cell (p := ⟨gr, k, none⟩) hgl).trans hcr
        by_cases hjl : j < n
        · have hjl' : (j : Int) < (n : Int) := by omega
          rcases hm with hm | ⟨g, o, rfl, _, hgg, hm⟩
          · omega
          have h0 := hm j hjl 0 _ rfl
          rw [show o + j * 1 + 0 = o + j by omega] at h0
          have c3 := (hB.cell (p := ⟨g, o + j, none⟩) hgg).trans h0
          have q : ((-1 - (k : Int)) != (-1 - (k : Int))) = false := by simp
          clear h0 hm
          go_wp2
          go_roundw
          case rel => exact ⟨j + 1, by omega, by go_num, hB⟩
          case measure => simp [intOf]; omega
        · go_wp2
          go_roundw
          case rel => exact ⟨k + 1, by omega, by go_num, hB⟩
          case measure => simp [intOf]; omega
    · have hltn : ¬ (k : Int) < (I.length : Int) := by omega
      go_wp2_with fail
      go_loopw [5] (fun ii wr => ∃ k : Nat, k ≤ G.length ∧ ii = .int .i64 k ∧ Below w.heap.size w wr) (fun ii _ => G.length - (intOf ii).toNat)
      case atStart => exact ⟨0, by omega, rfl, hB⟩
      case round =>
        clear hB c1
        obtain ⟨k, hk, rfl, hB⟩ := hrel
        have c1 := (hB.cell (p := ⟨bw, 2, none⟩) hbl).trans hb2
        by_cases hlt : k < G.length
        · have hlt' : (k : Int) < (G.length : Int) := by omega
          obtain ⟨u, hu⟩ : ∃ u, G[k]? = some u := ⟨_, List.getElem?_eq_getElem hlt⟩
          obtain ⟨gr, cr, he, _, hcr⟩ := one_cell HS.out.sG.row hu
          simp only [Value.slice.injEq, true_and] at he
          obtain ⟨rfl, rfl⟩ := he
          have hgl := World.block_lt_of_cell? w _ hcr
          obtain ⟨p, n, c, rfl, hn, hm⟩ := HS.out.sG.each k u hu
          have hn' : n ≤ 9223372036854775807 := by unfold maxLen at hn; omega
          clear hn hu
          go_wp2_with fail
          go_loopw [6] (fun jj wr => ∃ j : Nat, j ≤ n ∧ jj = .int .i64 j ∧ Below w.heap.size w wr) (fun jj _ => n - (intOf jj).toNat)
          case atStart => exact ⟨0, by omega, rfl, hB⟩
          case round =>
            clear hB c1
            obtain ⟨j, hj, rfl, hB⟩ := hrel
            have c1 := (hB.cell (p := ⟨bw, 2, none⟩) hbl).trans hb2
            have c2 := (hB.cell (p := ⟨gr, k, none⟩) hgl).trans hcr
            by_cases hjl : j < n
            · have hjl' : (j : Int) < (n : Int) := by omega
              rcases hm with hm | ⟨g, o, rfl, _, hgg, hm⟩
              · omega
              have e0 : wr.cell? ⟨g, o + j * 8, none⟩ = some (I64 0) := (hB.cell (p := ⟨g, o + j * 8, none⟩) hgg).trans (hm j hjl 0 _ rfl)
              have e1 : wr.cell? ⟨g, o + j * 8 + 1, none⟩ = some (I64 (-1 - k)) := (hB.cell (p := ⟨g, o + j * 8 + 1, none⟩) hgg).trans (hm j hjl 1 _ rfl)
              have e2 : wr.cell? ⟨g, o + j * 8 + 2, none⟩ = some (I64 0) := (hB.cell (p := ⟨g, o + j * 8 + 2, none⟩) hgg).trans (hm j hjl 2 _ rfl)
              have e3 : wr.cell? ⟨g, o + j * 8 + 3, none⟩ = some (I64 0) := (hB.cell (p := ⟨g, o + j * 8 + 3, none⟩) hgg).trans (hm j hjl 3 _ rfl)
              have e4 : wr.cell? ⟨g, o + j * 8 + 4, none⟩ = some (I64 0) := (hB.cell (p := ⟨g, o + j * 8 + 4, none⟩) hgg).trans (hm j hjl 4 _ rfl)
              have e5 : wr.cell? ⟨g, o + j * 8 + 5, none⟩ = some (I64 0) := (hB.cell (p := ⟨g, o + j * 8 + 5, none⟩) hgg).trans (hm j hjl 5 _ rfl)
              have e6 : wr.cell? ⟨g, o + j * 8 + 6, none⟩ = some (I64 0) := (hB.cell (p := ⟨g, o + j * 8 + 6, none⟩) hgg).trans (hm j hjl 6 _ rfl)
              have e7 : wr.cell? ⟨g, o + j * 8 + 7, none⟩ = some (I64 0) := (hB.cell (p := ⟨g, o + j * 8 + 7, none⟩) hgg).trans (hm j hjl 7 _ rfl)
              have q : ((-1 - (k : Int)) != (-1 - (k : Int))) = false := by simp
              clear hm
              go_wp2_with fail
              obtain ⟨nn, hnn⟩ : ∃ nn, wr.heap.size = nn := ⟨_, rfl⟩
              obtain ⟨W, hW⟩ : ∃ W, wr.alloc (.cells #[I64 0, I64 (-1 - k), I64 0, I64 0, I64 0, I64 0, I64 0, I64 0] 84) = W := ⟨_, rfl⟩
              have hBW : Below w.heap.size w W := by rw [← hW]; exact hB.alloc hB.size _
              have hWo : W.heap[nn]? = some (.cells #[I64 0, I64 (-1 - k), I64 0, I64 0, I64 0, I64 0, I64 0, I64 0] 84 (0, 0)) := by rw [← hW, ← hnn]; exact heap_alloc_new wr _
              obtain ⟨d0, d1, d2, d3, d4, d5, d6, d7⟩ := eight_cells hWo
              have hnl : nn < W.heap.size := (Array.getElem?_eq_some_iff.1 hWo).1
              rw [hW, hnn]
              refine (sameVotesL_at ⟨0, 0, 0⟩ W).mono ?_
              rintro e W2 ⟨rfl, hB2⟩
              clear hW hnn e0 e1 e2 e3 e4 e5 e6 e7 c1 c2
              have f0 := (hB2.cell (p := ⟨nn, 0, none⟩) hnl).trans d0
              have f1 := (hB2.cell (p := ⟨nn, 1, none⟩) hnl).trans d1
              have f5 := (hB2.cell (p := ⟨nn, 5, none⟩) hnl).trans d5
              have f6 := (hB2.cell (p := ⟨nn, 6, none⟩) hnl).trans d6
              have f7 := (hB2.cell (p := ⟨nn, 7, none⟩) hnl).trans d7
              clear d0 d1 d2 d3 d4 d5 d6 d7
              have hBW2 : Below w.heap.size w W2 := hBW.trans (hB2.mono hBW.size)
              have hnl2 : nn < W2.heap.size := Nat.lt_of_lt_of_le hnl hB2.size
              go_wp2_with fail
              refine (sameVotesL_at ⟨0, 0, 0⟩ W2).mono ?_
              rintro e W3 ⟨rfl, hB3⟩
              have g0 := (hB3.cell (p := ⟨nn, 0, none⟩) hnl2).trans f0
              have g1 := (hB3.cell (p := ⟨nn, 1, none⟩) hnl2).trans f1
              have hBW3 : Below w.heap.size w W3 := hBW2.trans (hB3.mono hBW2.size)
              clear f0 f1 f5 f6 f7 hB2 hB3
              go_wp2
              go_roundw
              case rel => exact ⟨j + 1, by omega, by go_num, hBW3⟩
              case measure => simp [intOf]; omega
            · go_wp2
              go_roundw
              case rel => exact ⟨k + 1, by omega, by go_num, hB⟩
              case measure => simp [intOf]; omega
        · have hltm : ¬ (k : Int) < (G.length : Int) := by omega
          go_wp2_with fail
          go_loopw [10] (fun ii wr => ∃ k : Nat, k ≤ L.length ∧ ii = .int .i64 k ∧ Below w.heap.size w wr) (fun ii _ => L.length - (intOf ii).toNat)
          case atStart => exact ⟨0, by omega, rfl, hB⟩
          case round =>
            clear hB c1
            obtain ⟨k, hk, rfl, hB⟩ := hrel
            have c1 := (hB.cell (p := ⟨bw, 3, none⟩) hbl).trans hb3
            by_cases hlt : k < L.length
            · have hlt' : (k : Int) < (L.length : Int) := by omega
              obtain ⟨u, hu⟩ : ∃ u, L[k]? = some u := ⟨_, List.getElem?_eq_getElem hlt⟩
              obtain ⟨gr, cr, he, _, hcr⟩ := one_cell HS.out.sL.row hu
              simp only [Value.slice.injEq, true_and] at he
              obtain ⟨rfl, rfl⟩ := he
              have hgl := World.block_lt_of_cell? w _ hcr
              obtain ⟨p, n, c, rfl, hn, hm⟩ := HS.out.sL.each k u hu
              have hn' : n ≤ 9223372036854775807 := by unfold maxLen at hn; omega
              clear hn hu
              go_wp2_with fail
              go_loopw [11] (fun jj wr => ∃ j : Nat, j ≤ n ∧ jj = .int .i64 j ∧ Below w.heap.size w wr) (fun jj _ => n - (intOf jj).toNat)
              case atStart => exact ⟨0, by omega, rfl, hB⟩
              case round =>
                clear hB c1
                obtain ⟨j, hj, rfl, hB⟩ := hrel
                have c1 := (hB.cell (p := ⟨bw, 3, none⟩) hbl).trans hb3
                have c2 := (hB.cell (p := ⟨gr, k, none⟩) hgl).trans hcr
                by_cases hjl : j < n
                · have hjl' : (j : Int) < (n : Int) := by omega
                  rcases hm with hm | ⟨g, o, rfl, _, hgg, hm⟩
                  · omega
                  have e0 : wr.cell? ⟨g, o + j * 3, none⟩ = some (I64 (-1 - k)) := (hB.cell (p := ⟨g, o + j * 3, none⟩) hgg).trans (hm j hjl 0 _ rfl)
                  have e1 : wr.cell? ⟨g, o + j * 3 + 1, none⟩ = some (I64 0) := (hB.cell (p := ⟨g, o + j * 3 + 1, none⟩) hgg).trans (hm j hjl 1 _ rfl)
                  have e2 : wr.cell? ⟨g, o + j * 3 + 2, none⟩ = some (.slice none 0 0) := (hB.cell (p := ⟨g, o + j * 3 + 2, none⟩) hgg).trans (hm j hjl 2 _ rfl)
                  have q : ((-1 - (k : Int)) != (-1 - (k : Int))) = false := by simp
                  have hBW : Below w.heap.size w (wr.alloc (.cells #[I64 (-1 - k), I64 0, .slice none 0 0] 121)) := hB.alloc hB.size _
                  clear hm
                  go_wp2
                  go_roundw
                  case rel => exact ⟨j + 1, by omega, by go_num, hBW⟩
                  case measure => simp [intOf]; omega
                · go_wp2
                  go_roundw
                  case rel => exact ⟨k + 1, by omega, by go_num, hB⟩
                  case measure => simp [intOf]; omega
            · go_wp2
              go_ret
              exact ⟨rfl, hB⟩
end Go.Proofs.YtgebcnnenhgkcaaGreat
/- The law All: its World: several Courts, and the lists that came out of them. -/
namespace Go.Proofs.YtgebcnnenhgkcaaGreat
open Go.RowKit Go.Shelf

/-- A Court beside the document's, in the blocks of its own colour. -/
def CrtAt (w : World) (col : Nat → Nat) (i x : Nat) (ws : List Int) : Prop := ∃ ps vs b rb S R, BothAt w (fun k => k < w.heap.size ∧ col k ≠ 9 + i) x b rb S R ws ps vs
theorem BothAt.ltS {w : World} {Pr : Nat → Prop} {x b rb : Nat} {S R : Nat → Prop} {ws ps : List Int} {vs : List Vt} (h : BothAt w Pr x b rb S R ws ps vs) {k : Nat} (hk : S k) : k < w.heap.size := by
  obtain ⟨_, _, _, hC⟩ := h.court
  exact hC.lt k hk
theorem BothAt.ltR {w : World} {Pr : Nat → Prop} {x b rb : Nat} {S R : Nat → Prop} {ws ps : List Int} {vs : List Vt} (h : BothAt w Pr x b rb S R ws ps vs) {k : Nat} (hk : R k) : k < w.heap.size := by
  obtain ⟨_, _, _, hR⟩ := h.doc
  exact hR.lt k hk
/-- The same Courts, of other blocks that are not theirs. -/
theorem BothAt.other {w : World} {Pr Pr' : Nat → Prop} {x b rb : Nat} {S R : Nat → Prop} {ws ps : List Int} {vs : List Vt} (h : BothAt w Pr x b rb S R ws ps vs) (hx : ¬ Pr' x) (hS : ∀ k, S k → ¬ Pr' k) (hR : ∀ k, R k → ¬ Pr' k) (hl : ∀ k, Pr' k → k < w.heap.size) : BothAt w Pr' x b rb S R ws ps vs :=
  ⟨h.box, h.court, h.doc, h.dis, h.xS, h.xR, hx, hS, hR, hl, h.okw, h.T, h.len, h.okv⟩
theorem BothAt.chg {w w' : World} {Pr : Nat → Prop} {x b rb : Nat} {S R T : Nat → Prop} {ws ps : List Int} {vs : List Vt} (h : BothAt w Pr x b rb S R ws ps vs) (hc : Chg T w w') (hx : ¬ T x) (hS : ∀ k, S k → ¬ T k) (hR : ∀ k, R k → ¬ T k) : BothAt w' Pr x b rb S R ws ps vs := by
  obtain ⟨_, _, _, hC⟩ := h.court
  obtain ⟨_, _, _, hD⟩ := h.doc
  exact ⟨(hc.block x h.ltx hx).trans h.box, ⟨_, _, _, hC.kept hc hS⟩, ⟨_, _, _, hD.kept hc hR⟩, h.dis, h.xS, h.xR, h.lowx, h.lowS, h.lowR, fun k hk => Nat.lt_of_lt_of_le (h.le k hk) hc.size, h.okw, h.T, h.len, h.okv⟩
/-- A Court whose blocks have one colour. -/
theorem BothAt.colored {w : World} {col : Nat → Nat} {i x b rb : Nat} {S R : Nat → Prop} {ws ps : List Int} {vs : List Vt} (h : BothAt w (fun k => k < w.heap.size ∧ col k ≠ 9 + i) x b rb S R ws ps vs) : col x = 9 + i ∧ (∀ k, S k → col k = 9 + i) ∧ ∀ k, R k → col k = 9 + i := by
  refine ⟨Decidable.byContradiction fun e => h.lowx ⟨h.ltx, e⟩, fun k hk => Decidable.byContradiction fun e => h.lowS k hk ⟨h.ltS hk, e⟩, fun k hk => Decidable.byContradiction fun e => h.lowR k hk ⟨h.ltR hk, e⟩⟩
theorem BothAt.color {w : World} {Pr : Nat → Prop} {col : Nat → Nat} {i x b rb : Nat} {S R : Nat → Prop} {ws ps : List Int} {vs : List Vt} (h : BothAt w Pr x b rb S R ws ps vs) (hx : col x = 9 + i) (hS : ∀ k, S k → col k = 9 + i) (hR : ∀ k, R k → col k = 9 + i) : CrtAt w col i x ws :=
  ⟨ps, vs, b, rb, S, R, h.other (fun e => e.2 hx) (fun k hk e => e.2 (hS k hk)) (fun k hk e => e.2 (hR k hk)) (fun _ hk => hk.1)⟩
theorem CrtAt.kept {w w' : World} {col col' : Nat → Nat} {i x : Nat} {ws : List Int} {T : Nat → Prop} (h : CrtAt w col i x ws) (hc : Chg T w w') (hs : ∀ k, k < w.heap.size → T k → col k ≠ 9 + i) (hcol : ∀ k, k < w.heap.size → col' k = col k) : CrtAt w' col' i x ws := by
  obtain ⟨ps, vs, b, rb, S, R, h⟩ := h
  obtain ⟨h1, h2, h3⟩ := h.colored
  refine (h.chg hc (fun e => hs x h.ltx e h1) (fun k hk e => hs k (h.ltS hk) e (h2 k hk)) (fun k hk e => hs k (h.ltR hk) e (h3 k hk))).color ?_ (fun k hk => ?_) (fun k hk => ?_)
  · rw [hcol x h.ltx]; exact h1
  · rw [hcol k (h.ltS hk)]; exact h2 k hk
  · rw [hcol k (h.ltR hk)]; exact h3 k hk

/-- The World of the law All. -/
structure AllSt (w0 w : World) (col : Nat → Nat) (bw : Nat) (C : List (Nat × List Int)) (vc vi vg vl : Value) (I G L : List Value) : Prop where
  B : Below w0.heap.size w0 w
  lo : ∀ k, k < w0.heap.size → col k = 0
  ls : LSt w col bw vc vi vg vl I G L
  crow : w.ownsRow 0 30 1 vc C.length (C.map (fun c => .pointer (some ⟨c.1, 0, none⟩)))
  ccol : ∀ k, vc.ownBlock = some k → col k = 2
  crt : ∀ i c, C[i]? = some c → CrtAt w col i c.1 c.2
section
variable {w0 w w' : World} {col col' : Nat → Nat} {bw : Nat} {C : List (Nat × List Int)} {vc vi vg vl vi' vg' vl' : Value} {I G L I' G' L' : List Value} {T : Nat → Prop}
theorem AllSt.lists (h : AllSt w0 w col bw C vc vi vg vl I G L) (hls : LSt w' col' bw vc vi' vg' vl' I' G' L') (hc : Chg T w w') (hs : ∀ k, k < w.heap.size → T k → 1 ≤ col k ∧ col k ≤ 8 ∧ col k ≠ 2) (hcol : ∀ k, k < w.heap.size → col' k = col k) : AllSt w0 w' col' bw C vc vi' vg' vl' I' G' L' := by
  have hz := h.B.size
  refine ⟨h.B.trans (hc.below hz (fun k hk e => ?_)), fun k hk => by rw [hcol k (by omega)]; exact h.lo k hk, hls, hc.row h.crow (fun k hk e => ?_), fun k hk => by rw [hcol k (h.crow.lt k hk).2]; exact h.ccol k hk, fun i c hi => (h.crt i c hi).kept hc (fun k hk e => ?_) hcol⟩
  · have := hs k (by omega) e; have := h.lo k hk; omega
  · have := hs k (h.crow.lt k hk).2 e; have := h.ccol k hk; omega
  · have := hs k hk e; omega
theorem AllSt.below (h : AllSt w0 w col bw C vc vi vg vl I G L) (hB : Below w.heap.size w w') (c : Nat) : AllSt w0 w' (ext w.heap.size col c) bw C vc vi vg vl I G L :=
  h.lists (h.ls.kept (Chg.of_below (fun _ => False) hB) (fun _ _ e => e.elim) (fun _ hb => ext_lt hb)) (Chg.of_below (fun _ => False) hB) (fun _ _ e => e.elim) (fun _ hk => ext_lt hk)
/-- Only blocks of one Court have turned; that Court lies on. -/
theorem AllSt.court (h : AllSt w0 w col bw C vc vi vg vl I G L) {i : Nat} {c : Nat × List Int} (hi : C[i]? = some c) (hC : CrtAt w' col' i c.1 c.2) (hc : Chg (fun k => ¬ (k < w.heap.size ∧ col k ≠ 9 + i)) w w') (hcol : ∀ k, k < w.heap.size → col' k = col k) : AllSt w0 w' col' bw C vc vi vg vl I G L := by
  have hz := h.B.size
  have hone : ∀ k, k < w.heap.size → ¬ (k < w.heap.size ∧ col k ≠ 9 + i) → col k = 9 + i := fun k hk e => Decidable.byContradiction fun e2 => e ⟨hk, e2⟩
  refine ⟨h.B.trans (hc.below hz (fun k hk e => ?_)), fun k hk => by rw [hcol k (by omega)]; exact h.lo k hk, h.ls.kept hc (fun b hb e => ?_) hcol, hc.row h.crow (fun k hk e => ?_), fun k hk => by rw [hcol k (h.crow.lt k hk).2]; exact h.ccol k hk, fun j d hj => ?_⟩
  · have := hone k (by omega) e; have := h.lo k hk; omega
  · have := hone b hb e; omega
  · have := hone k (h.crow.lt k hk).2 e; have := h.ccol k hk; omega
  · by_cases e : j = i
    · subst e
      rw [hi] at hj
      injection hj with hj
      subst hj
      exact hC
    · exact (h.crt j d hj).kept hc (fun k hk e2 => by have := hone k hk e2; omega) hcol
/-- A call that leaves the Court's blocks its own: what is new gets colour c. -/
theorem AllSt.called (h : AllSt w0 w col bw C vc vi vg vl I G L) {i : Nat} {c : Nat × List Int} (hi : C[i]? = some c) {x b rb : Nat} {S R : Nat → Prop} {ws ps ps' : List Int} {vs vs' : List Vt} (hb : BothAt w (fun k => k < w.heap.size ∧ col k ≠ 9 + i) x b rb S R ws ps vs) (hx : c = (x, ws))
    (hb' : BothAt w' (fun k => k < w.heap.size ∧ col k ≠ 9 + i) x b rb S R ws ps' vs') (hc : Chg (fun k => ¬ (k < w.heap.size ∧ col k ≠ 9 + i)) w w') (hcol : ∀ k, k < w.heap.size → col' k = col k) : AllSt w0 w' col' bw C vc vi vg vl I G L := by
  obtain ⟨h1, h2, h3⟩ := hb.colored
  subst hx
  exact h.court hi (hb'.color (by rw [hcol x hb.ltx]; exact h1) (fun k hk => by rw [hcol k (hb.ltS hk)]; exact h2 k hk) (fun k hk => by rw [hcol k (hb.ltR hk)]; exact h3 k hk)) hc hcol
/-- A call behind which the Court may have new blocks. -/
theorem AllSt.stepped (h : AllSt w0 w col bw C vc vi vg vl I G L) {i : Nat} {c : Nat × List Int} (hi : C[i]? = some c) (hA : Alike2 w' (fun k => k < w.heap.size ∧ col k ≠ 9 + i) c.1 c.2) (hc : Chg (fun k => ¬ (k < w.heap.size ∧ col k ≠ 9 + i)) w w') : AllSt w0 w' (ext w.heap.size col (9 + i)) bw C vc vi vg vl I G L := by
  obtain ⟨ps, vs, b, rb, S, R, hb⟩ := hA
  have hk : ∀ k, ¬ (k < w.heap.size ∧ col k ≠ 9 + i) → ext w.heap.size col (9 + i) k = 9 + i := fun k e => by
    by_cases hl : k < w.heap.size
    · rw [ext_lt hl]; exact Decidable.byContradiction fun e2 => e ⟨hl, e2⟩
    · exact ext_ge (by omega)
  exact h.court hi (hb.color (hk _ hb.lowx) (fun k e => hk k (hb.lowS k e)) (fun k e => hk k (hb.lowR k e))) hc (fun k hl => ext_lt hl)
/-- One Court more. -/
theorem AllSt.addC {w1 w3 : World} {x gA cA : Nat} {ws : List Int} {ob : Obj} (h : AllSt w0 w col bw C vc vi vg vl I G L) (hB : Below w.heap.size w w1) (hBo : Both w1 (fun k => k < w.heap.size) x ws [0] [])
    (hown3 : w3.ownsRow 0 30 1 (.slice (some ⟨gA, 0, none⟩) (C.length + 1) cA) (C.length + 1) (C.map (fun c => .pointer (some ⟨c.1, 0, none⟩)) ++ [.pointer (some ⟨x, 0, none⟩)]))
    (hat3 : (vc.ownBlock = some gA ∧ (w1.alloc ob).grownBy w3 (some gA)) ∨ (gA = w1.heap.size + 1 ∧ (w1.alloc ob).grownBy w3 none)) :
    AllSt w0 (w3.setCell ⟨bw, 0, none⟩ (.slice (some ⟨gA, 0, none⟩) (C.length + 1) cA)) (ext w1.heap.size (ext w.heap.size col (9 + C.length)) 2) bw (C ++ [(x, ws)]) (.slice (some ⟨gA, 0, none⟩) (C.length + 1) cA) vi vg vl I G L := by
  have h1 := h.below hB (9 + C.length)
  obtain ⟨b, rb, S, R, hb⟩ := hBo
  have hbl : bw < w1.heap.size := (Array.getElem?_eq_some_iff.1 h1.ls.hb).1
  have hBa : Below w1.heap.size w1 (w1.alloc ob) := (Below.refl _ w1).alloc (Nat.le_refl _) _
  have hc13 : Chg (fun k => vc.ownBlock = some k) w1 w3 := (Chg.of_below _ hBa).trans (after_app_chg hat3)
  have hvb : vc.ownBlock ≠ some bw := fun e => by have h2 := h1.ccol bw e; rw [h1.ls.cb] at h2; cases h2
  have hb3 : w3.heap[bw]? = some (.cells #[vc, vi, vg, vl] 56 (0, 0)) := (hc13.block bw hbl hvb).trans h1.ls.hb
  have hcF : Chg (fun k => k = bw ∨ vc.ownBlock = some k) w1 (w3.setCell ⟨bw, 0, none⟩ (.slice (some ⟨gA, 0, none⟩) (C.length + 1) cA)) := (hc13.mono (T := fun k => k = bw ∨ vc.ownBlock = some k) (fun k _ e => .inr e)).setCell (p := ⟨bw, 0, none⟩) (.inl (.inl rfl)) _
  have hcol : ∀ k, k < w1.heap.size → ext w1.heap.size (ext w.heap.size col (9 + C.length)) 2 k = ext w.heap.size col (9 + C.length) k := fun k hk => ext_lt hk
  have hS : ∀ k, k < w1.heap.size → (k = bw ∨ vc.ownBlock = some k) → ext w.heap.size col (9 + C.length) k = 1 ∨ ext w.heap.size col (9 + C.length) k = 2 := fun k _ e => by
    rcases e with rfl | e
    · exact .inl h1.ls.cb
    · exact .inr (h1.ccol k e)
  have hgb : gA ≠ bw := fun e => by
    rcases hat3 with ⟨h2, _⟩ | ⟨h2, _⟩
    · exact hvb (by rw [h2, e])
    · omega
  have hz := h1.B.size
  refine ⟨h1.B.trans (hcF.below hz (fun k hk e => ?_)), fun k hk => by rw [hcol k (by omega)]; exact h1.lo k hk, ⟨?_, by rw [hcol bw hbl]; exact h1.ls.cb, h1.ls.sI.kept hcF (fun b hb e e2 => ?_) hcol, h1.ls.sG.kept hcF (fun b hb e e2 => ?_) hcol, h1.ls.sL.kept hcF (fun b hb e e2 => ?_) hcol⟩, ?_, fun k hk => ?_, fun i c hi => ?_⟩
  · have := hS k (by omega) e; have := h1.lo k hk; omega
  · exact heap_setCell_same _ bw 0 _ _ _ hb3
  · have := hS b hb e2; omega
  · have := hS b hb e2; omega
  · have := hS b hb e2; omega
  · rw [List.length_append, List.map_append]
    exact ((Chg.refl (fun k => k = bw) w3).setCell (p := ⟨bw, 0, none⟩) (.inl rfl) _).row hown3 (fun k hk e => by simp [Value.ownBlock] at hk; omega)
  · have hk' : gA = k := by simpa [Value.ownBlock] using hk
    subst hk'
    rcases hat3 with ⟨h2, _⟩ | ⟨h2, _⟩
    · rw [hcol gA (h1.crow.lt gA h2).2]; exact h1.ccol gA h2
    · exact ext_ge (by omega)
  · by_cases hil : i < C.length
    · rw [List.getElem?_append_left hil] at hi
      exact (h1.crt i c hi).kept hcF (fun k hk e => by have := hS k hk e; omega) hcol
    · have hie : i = C.length := by
        have := (List.getElem?_eq_some_iff.1 hi).1
        simp at this; omega
      subst hie
      rw [List.getElem?_append_right (Nat.le_refl _), Nat.sub_self] at hi
      simp at hi
      subst hi
      have hx : ∀ k, ¬ k < w.heap.size → k < w1.heap.size → ext w.heap.size col (9 + C.length) k = 9 + C.length := fun k h2 _ => ext_ge (by omega)
      have hnw : CrtAt w1 (ext w.heap.size col (9 + C.length)) C.length x ws := hb.color (hx x hb.lowx hb.ltx) (fun k hk => hx k (hb.lowS k hk) (hb.ltS hk)) (fun k hk => hx k (hb.lowR k hk) (hb.ltR hk))
      exact hnw.kept hcF (fun k hk e => by have := hS k hk e; omega) hcol
end

theorem infoo_B : (Tryz.prog.info? 30).map (fun i => (i.zero, i.size, i.bytes)) = some (some (.pointer none), 1, 8) := by kernel_rfl
set_option maxRecDepth 100000 in
set_option maxHeartbeats 4000000 in
theorem madeW_at (w0 w : World) (col : Nat → Nat) (bw : Nat) (C : List (Nat × List Int)) (vc vi vg vl : Value) (I G L : List Value) (h : AllSt w0 w col bw C vc vi vg vl I G L) (p : Option Addr) (c : Nat) (ws : List Int) (hx : IntsAt w p ws) (hn : p = none → c = 0 ∧ ws = []) (hb : (ws.length + 3) * 8 ≤ 140737488355328) (hC : C.length ≤ 999999990) :
    Calls Tryz.prog 16 #[.pointer (some ⟨bw, 0, none⟩), .slice p ws.length c] w fun e w' => e = .returned (.bool true) ∧ ∃ col' C' vc', AllSt w0 w' col' bw C' vc' vi vg vl I G L ∧ C.length ≤ C'.length ∧ C'.length ≤ C.length + 1 ∧ (okW ws = true → C'.length = C.length + 1) := by
  obtain ⟨i0, hi, hz0, hz1, hz2⟩ := info_parts infoo_B
  obtain ⟨pc, cc, hvc⟩ := row_slice h.crow
  subst hvc
  have hbl : bw < w.heap.size := (Array.getElem?_eq_some_iff.1 h.ls.hb).1
  have HS : Hid _ := h
  by_cases hok : okW ws = true
  · have hbg := begun_okA p c ws w hx hn hb hok
    clear hx hn hb h
    go_enter Tryz.func16, Tryz.ntmps16
    go_wp2_with fail
    refine hbg.mono ?_
    rintro e w1 ⟨x, rfl, hBo, hB1⟩
    clear hbg
    have hz := hB1.size
    have hb1 := (hB1.block bw hbl).trans HS.out.ls.hb
    have c0 : w1.cell? ⟨bw, 0, none⟩ = some (.slice pc C.length cc) := by rw [cell_of_heap hb1]; rfl
    have hrow := row_below HS.out.crow hB1 (Nat.le_refl _)
    have hba : (w1.alloc (.cells #[.pointer (some ⟨x, 0, none⟩)] 30)).heap[bw]? = some (.cells #[.slice pc C.length cc, vi, vg, vl] 56 (0, 0)) := (Below.heap_alloc _ _ _ (Array.getElem?_eq_some_iff.1 hb1).1).trans hb1
    have HBA : Hid _ := hba
    have hbl' : bw < (w1.alloc (.cells #[.pointer (some ⟨x, 0, none⟩)] 30)).heap.size := by simp; omega
    have hvb : (Value.slice pc C.length cc).ownBlock ≠ some bw := fun e => by have h2 := HS.out.ccol bw e; rw [HS.out.ls.cb] at h2; cases h2
    have h63 : C.length + 1 ≤ maxLen := by unfold maxLen; omega
    clear hba
    go_wp2_with (at_builtin; refine wpList_append_two (by rfl) _ _ _ (by rfl) 0 30 i0 (.pointer none) 1 8 Tryz.underlying51 hi hz0 hz1 hz2 rfl (by omega) _ C.length (C.map (fun c => .pointer (some ⟨c.1, 0, none⟩))) (by rfl) (hrow.alloc _) ⟨w1.heap.size, 0, none⟩ 1 1 [.pointer (some ⟨x, 0, none⟩)] (by rfl) (by rfl) (World.news_of_block (cs := #[.pointer (some ⟨x, 0, none⟩)]) (heap_alloc_new _ _)) (by simp [Value.oneCell']) (by omega) h63 (by omega) (Nat.zero_le _) (w1.heap.size + 1) (by simp) ?_; intro gA cA w3 hown3 hat3 hlt3; have hb3 := (after_app hat3 hbl' hvb).trans HBA.out; have d1 : w3.cell? ⟨bw, 0, none⟩ = some (.slice pc C.length cc) := (by rw [cell_of_heap hb3]; rfl); have fz3 := fun q => frozen_of_heap hb3 q; have HME : Hid _ := HS.out.addC hB1 hBo hown3 hat3; clear hown3 hat3)
    go_ret
    exact ⟨rfl, _, _, _, HME.out, by simp, by simp, fun _ => by simp⟩
  · have hok' : okW ws = false := by simpa using hok
    have hbg := begun_noA p c ws w hx hn hb hok'
    clear hx hn hb h
    go_enter Tryz.func16, Tryz.ntmps16
    go_wp2_with fail
    refine hbg.mono ?_
    rintro e w1 ⟨rfl, hB1⟩
    clear hbg
    go_wp2
    go_ret
    exact ⟨rfl, _, C, _, HS.out.below hB1 0, by omega, by omega, fun e => absurd e hok⟩

def lawPick (c n : Int) : Int := (if c < 0 then -(c + 1) else c) % n
theorem lawPick_call (c n : Int) (w : World) (hn : 0 < n) (hn2 : n ≤ 1000000000) (hc : -9223372036854775808 ≤ c ∧ c ≤ 9223372036854775807) :
    Calls Tryz.prog 52 #[.int .i64 c, .int .i64 n] w fun e w' => e = .returned (.int .i64 (lawPick c n)) ∧ w' = w := by
  by_cases h : c < 0
  · go_enter Tryz.func52, Tryz.ntmps52
    go_wp2
    go_ret
    refine ⟨congrArg (fun z => Ending.returned (Value.int .i64 z)) ?_, rfl⟩
    unfold lawPick
    rw [if_pos h, ← Int.neg_tmod, Int.tmod_eq_emod_of_nonneg (by omega)]
  · go_enter Tryz.func52, Tryz.ntmps52
    go_wp2
    go_ret
    refine ⟨congrArg (fun z => Ending.returned (Value.int .i64 z)) ?_, rfl⟩
    unfold lawPick
    rw [if_neg (by omega)]
theorem lawPick_at (c : Int) (n : Nat) (hn : 0 < n) (hn2 : n ≤ 1000000000) (hc : -9223372036854775808 ≤ c ∧ c ≤ 9223372036854775807) :
    ∃ k : Nat, k < n ∧ ∀ w, Calls Tryz.prog 52 #[.int .i64 c, .int .i64 n] w fun e w' => e = .returned (.int .i64 k) ∧ w' = w := by
  have h1 : 0 ≤ lawPick c n := Int.emod_nonneg _ (by omega)
  have h2 : lawPick c n < n := Int.emod_lt_of_pos _ (by omega)
  refine ⟨(lawPick c n).toNat, by omega, fun w => ?_⟩
  have h3 := lawPick_call c n w (by omega) (by omega) hc
  rw [show lawPick c n = ((lawPick c n).toNat : Int) by omega] at h3
  exact h3
end Go.Proofs.YtgebcnnenhgkcaaGreat
/- The law All: own, ownGuilt, ownLinks over its World. -/
namespace Go.Proofs.YtgebcnnenhgkcaaGreat
open Go.RowKit Go.Shelf

theorem BothAt.keptC {w w' : World} {col col' : Nat → Nat} {i x b rb : Nat} {S R T : Nat → Prop} {ws ps : List Int} {vs : List Vt} (h : BothAt w (fun k => k < w.heap.size ∧ col k ≠ 9 + i) x b rb S R ws ps vs) (hc : Chg T w w') (hs : ∀ k, k < w.heap.size → T k → col k ≠ 9 + i) (hcol : ∀ k, k < w.heap.size → col' k = col k) : BothAt w' (fun k => k < w'.heap.size ∧ col' k ≠ 9 + i) x b rb S R ws ps vs := by
  obtain ⟨h1, h2, h3⟩ := h.colored
  refine (h.chg hc (fun e => hs x h.ltx e h1) (fun k hk e => hs k (h.ltS hk) e (h2 k hk)) (fun k hk e => hs k (h.ltR hk) e (h3 k hk))).other (fun e => e.2 ?_) (fun k hk e => e.2 ?_) (fun k hk e => e.2 ?_) (fun k hk => hk.1)
  · rw [hcol x h.ltx]; exact h1
  · rw [hcol k (h.ltS hk)]; exact h2 k hk
  · rw [hcol k (h.ltR hk)]; exact h3 k hk

section
variable (w0 w : World) (col : Nat → Nat) (bw : Nat) (C : List (Nat × List Int)) (vc vi vg vl : Value) (I G L : List Value)
theorem ownW_at (h : AllSt w0 w col bw C vc vi vg vl I G L) (v : Value) (n : Nat) (hr : RowX w 3 1 v n) (hv : ∀ b, v.ownBlock = some b → col b = 6 ∧ NoT 1 I b 0) (hn : n ≤ 100000) (hI : I.length ≤ 999999990) :
    Calls Tryz.prog 53 #[.pointer (some ⟨bw, 0, none⟩), v] w fun e w' => e = .returned (.tuple #[]) ∧ ∃ col' vi' J, AllSt w0 w' col' bw C vc vi' vg vl (I ++ J) G L ∧ J.length = 5 :=
  (own_at w col bw vc vi vg vl I G L v n h.ls hr hv hn hI).mono fun e w' ⟨h1, col', v', J, h2, h3, h4, _, h6, _⟩ => ⟨h1, col', v', J, h.lists h2 h6 (fun k _ e => by
    rcases e with e | e | e
    · omega
    · omega
    · have := (hv k e).1; omega) h4, h3⟩
theorem ownGuiltW_at (h : AllSt w0 w col bw C vc vi vg vl I G L) (v : Value) (n : Nat) (hr : RowX w 84 8 v n) (hv : ∀ b, v.ownBlock = some b → col b = 7 ∧ NoT 8 G b 0) (hn : n ≤ 100000) (hG : G.length ≤ 999999990) :
    Calls Tryz.prog 54 #[.pointer (some ⟨bw, 0, none⟩), v] w fun e w' => e = .returned (.tuple #[]) ∧ ∃ col' vg' J, AllSt w0 w' col' bw C vc vi vg' vl I (G ++ J) L ∧ J.length = 5 :=
  (ownGuilt_at w col bw vc vi vg vl I G L v n h.ls hr hv hn hG).mono fun e w' ⟨h1, col', v', J, h2, h3, h4, _, h6, _⟩ => ⟨h1, col', v', J, h.lists h2 h6 (fun k _ e => by
    rcases e with e | e | e
    · omega
    · omega
    · have := (hv k e).1; omega) h4, h3⟩
theorem ownLinksW_at (h : AllSt w0 w col bw C vc vi vg vl I G L) (v : Value) (X : List LkV) (hX : LinksAt w 0 v X) (hv : ∀ b, v.ownBlock = some b → col b = 8 ∧ NoT 3 L b 0) (hvs : ∀ x ∈ X, ∀ b, x.2.ownBlock = some b → col b = 6 ∧ NoT 1 I b 0)
    (hn : X.length ≤ 40) (hvl : ∀ x ∈ X, x.1.vs.length ≤ 12) (hI : I.length ≤ 999999000) (hL : L.length ≤ 999999990) :
    Calls Tryz.prog 55 #[.pointer (some ⟨bw, 0, none⟩), v] w fun e w' => e = .returned (.tuple #[]) ∧ ∃ col' vi' vl' J K, AllSt w0 w' col' bw C vc vi' vg vl' (I ++ J) G (L ++ K) ∧ J.length ≤ 200 ∧ K.length = 5 ∧ (∀ k, k < w.heap.size → col' k = col k) ∧
      Chg (fun k => col k = 1 ∨ col k = 3 ∨ col k = 5 ∨ v.ownBlock = some k ∨ ∃ x ∈ X, x.2.ownBlock = some k) w w' ∧ (∀ e ∈ J, ∀ k, e.ownBlock = some k → (∃ x ∈ X, x.2.ownBlock = some k) ∨ w.heap.size ≤ k) ∧ ∀ e ∈ K, ∀ k, e.ownBlock = some k → v.ownBlock = some k ∨ w.heap.size ≤ k :=
  (ownLinks_at w col bw vc vi vg vl I G L v X h.ls hX hv hvs hn (fun x hx => Nat.le_trans (hvl x hx) (by decide)) hI hL).mono fun e w' ⟨h1, col', vi', vl', J, K, h2, h3, h3', h4, _, h6, h7, h8⟩ => ⟨h1, col', vi', vl', J, K, h.lists h2 h6 (fun k _ e => by
    rcases e with e | e | e | e | ⟨x, hx, e⟩
    · omega
    · omega
    · omega
    · have := (hv k e).1; omega
    · have := (hvs x hx k e).1; omega) h4, by omega, h3', h4, h6, h7, h8⟩
end
/-- New links: their row has one colour, the voters' lists another. -/
def lcol (n : Nat) (col : Nat → Nat) (v : Value) : Nat → Nat := fun k => if k < n then col k else if v.ownBlock = some k then 8 else 6
theorem lcol_lt {n k : Nat} {col : Nat → Nat} {v : Value} (h : k < n) : lcol n col v k = col k := if_pos h
theorem lcol_row {n k : Nat} {col : Nat → Nat} {v : Value} (h : n ≤ k) (hv : v.ownBlock = some k) : lcol n col v k = 8 := by
  unfold lcol
  rw [if_neg (by omega), if_pos hv]
theorem lcol_each {n k : Nat} {col : Nat → Nat} {v : Value} (h : n ≤ k) (hv : v.ownBlock ≠ some k) : lcol n col v k = 6 := by
  unfold lcol
  rw [if_neg (by omega), if_neg hv]
theorem links_apart {w : World} {base : Nat} {v : Value} {X : List LkV} (h : LinksAt w base v X) {x : LkV} (hx : x ∈ X) {k : Nat} (hk : x.2.ownBlock = some k) : v.ownBlock ≠ some k := fun e => by
  obtain ⟨c1, e1⟩ := row_type (row_low h.row) e
  obtain ⟨c2, e2⟩ := row_type (row_low (h.each x hx)) hk
  rw [e1] at e2
  simp at e2
theorem links_fit {w : World} {base : Nat} {v : Value} {X : List LkV} (h : LinksAt w base v X) (hn : X.length ≤ 40) (hvl : ∀ x ∈ X, x.1.vs.length ≤ 12) : LkFit X := by
  refine ⟨fun x hx => ?_, by omega⟩
  have hr := h.each x hx
  have h12 := hvl x hx
  rcases hr.2 with ⟨h', h0⟩ | ⟨g, cap, cur, h', _⟩
  · exact ⟨none, 0, by rw [h', h0], fun _ => ⟨rfl, List.length_eq_zero_iff.1 h0⟩, by omega⟩
  · exact ⟨_, _, h', fun e => (by cases e), by omega⟩
end Go.Proofs.YtgebcnnenhgkcaaGreat
