/- Vote's inner part where nothing speaks against the vote: it is appended, and taken back where there are too many. -/
import Derived.Test.YtgebcnnenhgkcaaGive
namespace Go.Proofs.Ytgebcnnenhgkcaa
open Go.RowKit

/-- Where nothing else speaks against a vote: there may be too many. -/
def manyE (vs : List Vt) : Int := if 300 ≤ vs.length then 7 else 0
def manyV (vs : List Vt) (x : Vt) : List Vt := if 300 ≤ vs.length then vs else vs ++ [x]
theorem many_full {vs : List Vt} (x : Vt) (h : 300 ≤ vs.length) : manyE vs = 7 ∧ manyV vs x = vs := by simp [manyE, manyV, h]
theorem many_room {vs : List Vt} (x : Vt) (h : ¬ 300 ≤ vs.length) : manyE vs = 0 ∧ manyV vs x = vs ++ [x] := by simp [manyE, manyV, h]

set_option maxRecDepth 100000 in
set_option maxHeartbeats 8000000 in
theorem give_app (b : Nat) (S : Nat → Prop) (ws ps : List Int) (vs : List Vt) (wv pv vv : Value) (x : Vt) (w : World) (h : CourtAt w b S 1 ws ps vs wv pv vv) (hT : Tree ps) (hw : 0 < ws.length) (hl : vs.length ≤ 300) (hfa : fault ws.length ps vs x = 0) :
    Calls Try.prog 36 #[.pointer (some ⟨b, 0, none⟩), x.val] w fun e w' => e = .returned (.int .i64 (manyE vs)) ∧
      ∃ (S' : Nat → Prop) (vv' : Value), CourtAt w' b S' 1 ws ps (manyV vs x) wv pv vv' ∧ Chg S w w' ∧ (∀ k, S' k → S k ∨ w.heap.size ≤ k) := by
  have hbl := h.lt b h.inb
  have h4 := h.c4
  have hb1 : b < w.heap.size + 1 := by omega
  have hb2 : b < w.heap.size + 1 + 1 := by omega
  have hb3 : b < w.heap.size + 1 + 1 + 1 := by omega
  obtain ⟨vp, vc, hvv⟩ : ∃ vp vc, vv = .slice vp vs.length vc := by
    rcases h.vrow.2 with ⟨h', h''⟩ | ⟨g, cap, cur, h', _⟩
    · exact ⟨none, 0, by rw [h', h'']⟩
    · exact ⟨_, _, h'⟩
  subst hvv
  have hmf : ∀ (fn : Fn) (first cap : Array Value) (w : World), (Instr.makeFunc fn first cap).run Try.prog w = .ok (.func fn first cap) w := fun _ _ _ _ => rfl
  go_enter_defers Try.func36, Try.ntmps36
  go_wp2_with fail
  obtain ⟨W3, hW3⟩ : ∃ W3, (((w.alloc (.cells #[.pointer (some ⟨b, 0, none⟩)] 32)).alloc (.cells #[I64 x.v, I64 x.s, I64 x.t] 70)).alloc (.cells #[.int .i64 0] 51)).alloc (.cells #[.int .i64 vs.length] 3) = W3 := ⟨_, rfl⟩
  have hs3 : W3.heap.size = w.heap.size + 1 + 1 + 1 + 1 := by rw [← hW3]; simp
  have k0 : W3.cell? ⟨w.heap.size, 0, none⟩ = some (.pointer (some ⟨b, 0, none⟩)) := by rw [← hW3]; simp [go_sem]
  have kx0 : W3.cell? ⟨w.heap.size + 1, 0, none⟩ = some (I64 x.v) := by rw [← hW3]; simp [go_sem]
  have kx1 : W3.cell? ⟨w.heap.size + 1, 1, none⟩ = some (I64 x.s) := by rw [← hW3]; simp [go_sem]
  have kx2 : W3.cell? ⟨w.heap.size + 1, 2, none⟩ = some (I64 x.t) := by rw [← hW3]; simp [go_sem]
  have k1 : W3.cell? ⟨w.heap.size + 1 + 1, 0, none⟩ = some (.int .i64 0) := by rw [← hW3]; simp [go_sem]
  have f1 : W3.frozen? ⟨w.heap.size + 1 + 1, 0, none⟩ = false := by rw [← hW3]; simp [go_sem]
  have k2 : W3.cell? ⟨w.heap.size + 1 + 1 + 1, 0, none⟩ = some (.int .i64 vs.length) := by rw [← hW3]; simp [go_sem]
  have hB3 : Below w.heap.size w W3 := by rw [← hW3]; exact ((((Below.refl _ w).alloc (Nat.le_refl _) _).alloc (by simp) _).alloc (by simp; omega) _).alloc (by simp; omega) _
  rw [hW3]
  clear hW3
  have hC3 := h.kept (Chg.of_below (fun _ => False) hB3) (fun _ _ hf => hf)
  obtain ⟨wp, wc, g, gc, hFA⟩ := hC3.fault hT hw (by omega)
  refine (faultOf_at b ws.length ps vs wp wc g gc _ x _ hFA).mono ?_
  rintro e w4 ⟨rfl, hB4⟩
  have m0 : w4.cell? ⟨w.heap.size, 0, none⟩ = some (.pointer (some ⟨b, 0, none⟩)) := (hB4.cell (p := ⟨w.heap.size, 0, none⟩) (by simp; omega)).trans k0
  have mx0 : w4.cell? ⟨w.heap.size + 1, 0, none⟩ = some (I64 x.v) := (hB4.cell (p := ⟨w.heap.size + 1, 0, none⟩) (by simp; omega)).trans kx0
  have mx1 : w4.cell? ⟨w.heap.size + 1, 1, none⟩ = some (I64 x.s) := (hB4.cell (p := ⟨w.heap.size + 1, 1, none⟩) (by simp; omega)).trans kx1
  have mx2 : w4.cell? ⟨w.heap.size + 1, 2, none⟩ = some (I64 x.t) := (hB4.cell (p := ⟨w.heap.size + 1, 2, none⟩) (by simp; omega)).trans kx2
  have m1 : w4.cell? ⟨w.heap.size + 1 + 1, 0, none⟩ = some (.int .i64 0) := (hB4.cell (p := ⟨w.heap.size + 1 + 1, 0, none⟩) (by simp; omega)).trans k1
  have mf1 : w4.frozen? ⟨w.heap.size + 1 + 1, 0, none⟩ = false := (hB4.frozen (p := ⟨w.heap.size + 1 + 1, 0, none⟩) (by simp; omega)).trans f1
  have m2 : w4.cell? ⟨w.heap.size + 1 + 1 + 1, 0, none⟩ = some (.int .i64 vs.length) := (hB4.cell (p := ⟨w.heap.size + 1 + 1 + 1, 0, none⟩) (by simp; omega)).trans k2
  have hB4' : Below w.heap.size w w4 := hB3.trans (hB4.mono (by omega))
  have hs4 : w.heap.size + 1 + 1 + 1 + 1 ≤ w4.heap.size := by have := hB4.size; omega
  clear k0 kx0 kx1 kx2 k1 f1 k2 hC3 hFA hB4 hB3 hs3
  rw [hfa]
  obtain ⟨i0, hi, hz0, hz1, hz2⟩ := info_parts info_vote
  have h63 : Hid (vs.length + 1 ≤ maxLen) := by show _ ≤ _; unfold maxLen; omega
  have hbw4 : b < w4.heap.size := by omega
  go_wp2_with fail
  obtain ⟨W4, hW4⟩ : ∃ W4, w4.setCell ⟨w.heap.size + 1 + 1, 0, none⟩ (.int .i64 0) = W4 := ⟨_, rfl⟩
  have hB5 : Below w.heap.size w W4 := by rw [← hW4]; exact hB4'.setCell (p := ⟨w.heap.size + 1 + 1, 0, none⟩) (by simp; omega) _
  have hs5 : w.heap.size + 1 + 1 + 1 + 1 ≤ W4.heap.size := by rw [← hW4]; simpa [World.setCell] using hs4
  have q0 : W4.cell? ⟨w.heap.size, 0, none⟩ = some (.pointer (some ⟨b, 0, none⟩)) := by rw [← hW4, World.cell?_setCell_other _ _ _ _ (by simp)]; exact m0
  have qx0 : W4.cell? ⟨w.heap.size + 1, 0, none⟩ = some (I64 x.v) := by rw [← hW4, World.cell?_setCell_other _ _ _ _ (by simp)]; exact mx0
  have qx1 : W4.cell? ⟨w.heap.size + 1, 1, none⟩ = some (I64 x.s) := by rw [← hW4, World.cell?_setCell_other _ _ _ _ (by simp)]; exact mx1
  have qx2 : W4.cell? ⟨w.heap.size + 1, 2, none⟩ = some (I64 x.t) := by rw [← hW4, World.cell?_setCell_other _ _ _ _ (by simp)]; exact mx2
  have q1 : W4.cell? ⟨w.heap.size + 1 + 1, 0, none⟩ = some (.int .i64 0) := by rw [← hW4]; exact World.cell?_setCell_same _ _ _ m1
  have qf1 : W4.frozen? ⟨w.heap.size + 1 + 1, 0, none⟩ = false := by rw [← hW4]; simpa using mf1
  have q2 : W4.cell? ⟨w.heap.size + 1 + 1 + 1, 0, none⟩ = some (.int .i64 vs.length) := by rw [← hW4, World.cell?_setCell_other _ _ _ _ (by simp)]; exact m2
  rw [hW4]
  clear hW4 m0 mx0 mx1 mx2 m1 mf1 m2 hbw4
  have hC4 := h.kept (Chg.of_below (fun _ => False) hB5) (fun _ _ hf => hf)
  have c4 := hC4.c4
  have z4 := hC4.fz 4
  have hbw : b < W4.heap.size := by omega
  have hlt0 : w.heap.size < W4.heap.size := by omega
  have hlt1 : w.heap.size + 1 < W4.heap.size := by omega
  have hlt2 : w.heap.size + 1 + 1 < W4.heap.size := by omega
  have hlt3 : w.heap.size + 1 + 1 + 1 < W4.heap.size := by omega
  have hnb : Value.ownBlock (.slice vp vs.length vc) ≠ some b := not_row hC4.vrow hC4.heap (by decide)
  have hnx : ∀ k, w.heap.size ≤ k → Value.ownBlock (.slice vp vs.length vc) ≠ some k := fun k hk e => by have := h.lt k (h.inv k e); omega
  have hnx0 := hnx w.heap.size (Nat.le_refl _)
  have hown : (W4.drew.alloc (.cells #[I64 x.v, I64 x.s, I64 x.t] 70)).ownsRow 0 70 3 (.slice vp vs.length vc) vs.length (vtRow vs) := (Chg.row (S := fun _ => False) (Chg.drew (Chg.refl _ _)) hC4.vrow (fun _ _ hf => hf)).alloc _
  have hown' : ((W4.alloc (.cells #[I64 x.v, I64 x.s, I64 x.t] 70)).drew).ownsRow 0 70 3 (.slice vp vs.length vc) vs.length (vtRow vs) := hown
  go_cut [] from 18 to 27 (fun wc => ∃ g1 cap1 w7, w7.ownsRow 0 70 3 (.slice (some ⟨g1, 0, none⟩) (vs.length + 1) cap1) (vs.length + 1) (vtRow vs ++ [I64 x.v, I64 x.s, I64 x.t]) ∧ (W4.alloc (.cells #[I64 x.v, I64 x.s, I64 x.t] 70)).drew.grownBy w7 (Value.ownBlock (.slice vp vs.length vc)) ∧ (Value.ownBlock (.slice vp vs.length vc) = some g1 ∨ g1 = W4.heap.size + 1) ∧ g1 < w7.heap.size ∧ wc = w7.setCell ⟨b, 4, none⟩ (.slice (some ⟨g1, 0, none⟩) (vs.length + 1) cap1))
  case first =>
    refine wp_region_noPanic ?_
    go_region_law ((refine step_append_lies _ (by rfl) _ _ _ (by rfl) 0 70 i0 (.agg #[I64 0, I64 0, I64 0]) 3 24 Try.underlying44 hi hz0 hz1 hz2 (by rfl) (by omega) (.slice vp vs.length vc) vs.length (vtRow vs) (by rfl) hown' ⟨W4.heap.size, 0, none⟩ 1 1 [I64 x.v, I64 x.s, I64 x.t] (by rfl) (by rfl) (World.news_of_block (cs := #[I64 x.v, I64 x.s, I64 x.t]) (heap_alloc_new W4 _)) (by simp [Value.oneCell']) (by omega) h63.out (by omega) (Nat.zero_le _) (W4.heap.size + 1) (by simp) ?_; intro g1 cap1 w7 hown7 hgrow hat hlt; have hb7 : w7.heap[b]? = W4.heap[b]? := (hgrow.block b (by simp; omega) (fun e => hnb e.symm)).trans (Below.heap_alloc W4 _ b hbw); have y4 : w7.cell? ⟨b, 4, none⟩ = some (.slice vp vs.length vc) := (World.cell?_of_block hb7).trans c4; have yf : w7.frozen? ⟨b, 4, none⟩ = false := (World.frozen?_of_block hb7).trans z4; have h07 : w7.heap[w.heap.size]? = W4.heap[w.heap.size]? := (hgrow.block w.heap.size (by simp; omega) (fun e => hnx0 e.symm)).trans (Below.heap_alloc W4 _ w.heap.size hlt0); have y0 : w7.cell? ⟨w.heap.size, 0, none⟩ = some (.pointer (some ⟨b, 0, none⟩)) := (World.cell?_of_block h07).trans q0; clear hb7 h07))
    all_goals refine NoPanic.normal ?_
    all_goals (go_wp2; go_meet; exact ⟨_, _, _, hown7, hgrow, hat, hlt, rfl⟩)
  case rest =>
    obtain ⟨g1, cap1, w7, hown7, hgrow, hat, hlt, rfl⟩ := hcut
    have hcg : Chg (fun k => Value.ownBlock (.slice vp vs.length vc) = some k) W4 w7 := ((Chg.refl _ W4).alloc _).drew.grown hgrow (fun k e => .inl e)
    have hvr : vtRow vs ++ [I64 x.v, I64 x.s, I64 x.t] = vtRow (vs ++ [x]) := by simp [vtRow, vtCells]
    have hown8 : w7.ownsRow 0 70 3 (.slice (some ⟨g1, 0, none⟩) (vs ++ [x]).length cap1) (vs ++ [x]).length (vtRow (vs ++ [x])) := by
      rw [← hvr]; simpa using hown7
    obtain ⟨S8, hC8, c8, s8⟩ := hC4.setV (vs' := vs ++ [x]) hcg (g := g1) (cap := cap1) hown8 (hat.elim .inl (fun e => .inr (by omega))) hlt
    have hle8 : vs.length + 1 ≤ cap1 := by
      rcases hown7.2 with ⟨h', _⟩ | ⟨_, _, _, h', _, _, hle, _⟩
      · simp at h'
      · simp only [Value.slice.injEq, Option.some.injEq, Addr.mk.injEq] at h'
        obtain ⟨_, _, rfl⟩ := h'
        exact hle
    have hlen8 : (vs ++ [x]).length = vs.length + 1 := by simp
    rw [hlen8] at hC8 c8
    obtain ⟨W8, hW8⟩ : ∃ W8, w7.setCell ⟨b, 4, none⟩ (.slice (some ⟨g1, 0, none⟩) (vs.length + 1) cap1) = W8 := ⟨_, rfl⟩
    rw [hW8] at hC8 c8 ⊢
    clear hW8 hown8 hvr hcg hgrow hown7 hlen8
    have hnS : ∀ k, w.heap.size ≤ k → ¬ S k := fun k hk hS => by have := h.lt k hS; omega
    have r0 : W8.cell? ⟨w.heap.size, 0, none⟩ = some (.pointer (some ⟨b, 0, none⟩)) := c8.cell q0 (hnS _ (by simp))
    have r1 : W8.cell? ⟨w.heap.size + 1 + 1, 0, none⟩ = some (.int .i64 0) := c8.cell q1 (hnS _ (by simp; omega))
    have rf1 : W8.frozen? ⟨w.heap.size + 1 + 1, 0, none⟩ = false := (World.frozen?_of_block (c8.block (w.heap.size + 1 + 1) hlt2 (hnS _ (by omega)))).trans qf1
    have r2 : W8.cell? ⟨w.heap.size + 1 + 1 + 1, 0, none⟩ = some (.int .i64 vs.length) := c8.cell q2 (hnS _ (by simp; omega))
    have r4 : W8.cell? ⟨b, 4, none⟩ = some (.slice (some ⟨g1, 0, none⟩) (vs.length + 1) cap1) := hC8.c4
    have hz8 := c8.size
    have hS8 : ∀ k, S8 k → ¬ k = w.heap.size + 1 + 1 := fun k hk e => by
      rcases s8 k hk with hS | hle
      · exact hnS k (by omega) hS
      · omega
    clear q0 qx0 qx1 qx2 q1 qf1 q2 c4 z4 hown hown' hnx0
    by_cases hfull : 300 ≤ vs.length
    · have hgt : (300 : Int) < ((vs.length + 1 : Nat) : Int) := by omega
      go_wp2_with fail
      obtain ⟨W9, hW9⟩ : ∃ W9, W8.setCell ⟨w.heap.size + 1 + 1, 0, none⟩ (.int .i64 7) = W9 := ⟨_, rfl⟩
      have hcW : Chg (fun k => k = w.heap.size + 1 + 1) W8 W9 := by rw [← hW9]; exact (Chg.refl (fun k => k = w.heap.size + 1 + 1) W8).setCell (p := ⟨w.heap.size + 1 + 1, 0, none⟩) (.inl rfl) _
      have t0 : W9.cell? ⟨w.heap.size, 0, none⟩ = some (.pointer (some ⟨b, 0, none⟩)) := hcW.cell r0 (by dsimp only; omega)
      have t1 : W9.cell? ⟨w.heap.size + 1 + 1, 0, none⟩ = some (.int .i64 7) := by rw [← hW9]; exact World.cell?_setCell_same _ _ _ r1
      have t2 : W9.cell? ⟨w.heap.size + 1 + 1 + 1, 0, none⟩ = some (.int .i64 vs.length) := hcW.cell r2 (by simp)
      rw [hW9]
      clear hW9 r0 r1 r2 rf1 r4
      have hC9 := hC8.kept hcW hS8
      refine leaves_cons (f := 63) (args := #[.pointer (some ⟨w.heap.size + 1 + 1, 0, none⟩), .pointer (some ⟨w.heap.size, 0, none⟩), .pointer (some ⟨w.heap.size + 1 + 1 + 1, 0, none⟩)]) (by simp) (by simp [go_sem]) ?_
      refine (give1_back _ _ _ b g1 (vs.length + 1) cap1 vs.length 7 .returning _ t1 rfl t0 t2 hC9.c4 (hC9.fz 4) (by omega) hle8).mono ?_
      rintro e u' w'' ⟨rfl, rfl, rfl⟩
      have hr : (W9.drew.setCell ⟨b, 4, none⟩ (.slice (some ⟨g1, 0, none⟩) vs.length cap1)).cell? ⟨w.heap.size + 1 + 1, 0, none⟩ = some (.int .i64 7) := (World.cell?_setCell_other _ _ _ _ (by simp)).trans t1
      obtain ⟨S', a1, a2, a3⟩ := hC9.setV (w1 := W9.drew) (vs' := vs) (Chg.drew (Chg.refl _ _)) (g := g1) (cap := cap1) (Chg.row (S := fun _ => False) (Chg.drew (Chg.refl _ _)) (row_cut (xs := vtRow vs) (ys := vtCells x) (k := vs.length) (by simpa [vtRow] using hC9.vrow) (by omega) (vtRow_length vs)) (fun _ _ hf => hf)) (.inl rfl) (Nat.lt_of_lt_of_le (hC9.lt g1 (hC9.inv g1 rfl)) (Nat.le_refl _))
      obtain ⟨W5, hW5⟩ : ∃ W5, W9.drew.setCell ⟨b, 4, none⟩ (.slice (some ⟨g1, 0, none⟩) vs.length cap1) = W5 := ⟨_, rfl⟩
      rw [hW5] at hr a1 a2 ⊢
      clear hW5
      have hc9 : Chg S w W9 := ((Chg.of_below S hB5).trans c8).then hcW (fun k e => .inr (by omega))
      refine ⟨.int .i64 7, ?_, by rw [(many_full x hfull).1], S', _, by rw [(many_full x hfull).2]; exact a1, hc9.then a2 (fun k hk => (s8 k hk).imp id (fun hle => by omega)), fun k hk => (a3 k hk).elim (fun h5 => (s8 k h5).imp id (fun hle => by omega)) (fun hle => .inr (Nat.le_trans hc9.size hle))⟩
      simp [results, Try.results36, go_sem, hr]
    · have hgt : ((vs.length + 1 : Nat) : Int) ≤ 300 := by omega
      go_wp2_with fail
      obtain ⟨W9, hW9⟩ : ∃ W9, W8.setCell ⟨w.heap.size + 1 + 1, 0, none⟩ (.int .i64 0) = W9 := ⟨_, rfl⟩
      have hcW : Chg (fun k => k = w.heap.size + 1 + 1) W8 W9 := by rw [← hW9]; exact (Chg.refl (fun k => k = w.heap.size + 1 + 1) W8).setCell (p := ⟨w.heap.size + 1 + 1, 0, none⟩) (.inl rfl) _
      have t1 : W9.cell? ⟨w.heap.size + 1 + 1, 0, none⟩ = some (.int .i64 0) := by rw [← hW9]; exact World.cell?_setCell_same _ _ _ r1
      rw [hW9]
      clear hW9 r0 r1 r2 rf1 r4
      have hC9 := hC8.kept hcW hS8
      refine leaves_cons (f := 63) (args := #[.pointer (some ⟨w.heap.size + 1 + 1, 0, none⟩), .pointer (some ⟨w.heap.size, 0, none⟩), .pointer (some ⟨w.heap.size + 1 + 1 + 1, 0, none⟩)]) (by simp) (by simp [go_sem]) ?_
      refine (give1_ok _ _ _ .returning _ t1).mono ?_
      rintro e u' w'' ⟨rfl, rfl, rfl⟩
      have hc9 : Chg S w w'' := ((Chg.of_below S hB5).trans c8).then hcW (fun k e => .inr (by omega))
      refine ⟨.int .i64 0, ?_, by rw [(many_room x hfull).1], S8, _, by rw [(many_room x hfull).2]; exact hC9, hc9, fun k hk => (s8 k hk).imp id (fun hle => by omega)⟩
      simp [results, Try.results36, go_sem, t1]
end Go.Proofs.Ytgebcnnenhgkcaa
