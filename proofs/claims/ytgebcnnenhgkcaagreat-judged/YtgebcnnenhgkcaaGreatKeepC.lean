/- The statements without the document's answer: what lies when courts are voted in: the Court, the caller's tree, the caller's votes. -/
import Derived.Test.YtgebcnnenhgkcaaGreatKeepB
namespace Go.Proofs.YtgebcnnenhgkcaaGreat
open Go.RowKit

theorem khas_iff {n : Nat} {k : Int} : hasB n k = true ↔ 0 ≤ k ∧ k < n := by simp [hasB]

theorem okv_blk {n : Nat} {ps : List Int} {vs : List Vt} (h : OkV n ps vs) (hT : Tree ps) {p : Int} (hT2 : Tree (ps ++ [p])) : OkV n (ps ++ [p]) vs := by
  refine ⟨h.v, fun y hy => ⟨(h.t y hy).1, by have := (h.t y hy).2; simp; omega⟩, fun y hy => ?_, h.nd⟩
  have := h.a y hy
  rw [ahead_mem] at this ⊢
  rw [up_append hT hT2 _ _ (h.t y hy).1 (h.t y hy).2 (Nat.le_refl _)]
  exact this

/-- A vote that is taken, or is not. -/
theorem vot_cases {n : Nat} {ps : List Int} {vs : List Vt} (h : OkV n ps vs) (hl : vs.length ≤ 300) (x : Vt) :
    (votE n ps vs x = 0 ∧ votV n ps vs x = vs ++ [x] ∧ OkV n ps (vs ++ [x]) ∧ (vs ++ [x]).length ≤ 300) ∨ ((votE n ps vs x == 0) = false ∧ votV n ps vs x = vs) := by
  unfold votE votV
  by_cases hf : fault n ps vs x = 0
  · rw [if_pos hf, if_pos hf]
    by_cases hm : 300 ≤ vs.length
    · obtain ⟨e1, e2⟩ := many_full x hm
      rw [e1, e2]
      exact .inr ⟨rfl, rfl⟩
    · obtain ⟨e1, e2⟩ := many_room x hm
      rw [e1, e2]
      refine .inl ⟨rfl, rfl, ?_, by simp; omega⟩
      cases hv : hasB n x.v
      · simp [fault, hv] at hf
      cases hs : hasB ps.length x.s
      · simp [fault, hv, hs] at hf
      cases ht : hasB ps.length x.t
      · simp [fault, hv, hs, ht] at hf
      cases ha : ahead ps x.s x.t
      · simp [fault, hv, hs, ht, ha] at hf
      cases hany : vs.any (fun y => x.is y)
      · obtain ⟨t0, t1⟩ := khas_iff.1 ht
        have hm : ∀ y, y ∈ vs ++ [x] → y ∈ vs ∨ y = x := fun y hy => by simpa using hy
        refine ⟨fun y hy => ?_, fun y hy => ?_, fun y hy => ?_, ?_⟩
        · rcases hm y hy with h1 | rfl
          · exact h.v y h1
          · exact khas_iff.1 hv
        · rcases hm y hy with h1 | rfl
          · exact h.t y h1
          · exact ⟨t0, by omega⟩
        · rcases hm y hy with h1 | rfl
          · exact h.a y h1
          · exact ha
        · rw [List.nodup_append]
          refine ⟨h.nd, by simp, fun a ha' b hb e => ?_⟩
          simp only [List.mem_singleton] at hb
          subst hb
          rw [e] at ha'
          rw [List.any_eq_false] at hany
          exact hany _ ha' (Vt.is_iff.2 rfl)
      · simp [fault, hv, hs, ht, ha, hany] at hf
  · rw [if_neg hf, if_neg hf]
    exact .inr ⟨by simpa using hf, rfl⟩

/-- A block that is laid. -/
theorem blk_room {ps : List Int} {p : Int} (h0 : 0 ≤ p) (h1 : p < ps.length) (hl : ps.length < 40) : blkN ps p = ps.length ∧ blkE ps p = 0 ∧ blkP ps p = ps ++ [p] := by
  have hh : hasB ps.length p = true := khas_iff.2 ⟨h0, h1⟩
  unfold blkN blkE blkP
  rw [hh]
  simp
  omega

structure Kept (w wr : World) (b bt : Nat) (S0 S : Nat → Prop) (ws ps psT : List Int) (vs vsL : List Vt) (wv pv vv : Value) (gT capT : Nat) (lv : Value) : Prop where
  court : CourtAt wr b S 0 ws ps vs wv pv vv
  tcell : wr.heap[bt]? = some (.cells #[.slice (some ⟨gT, 0, none⟩) psT.length capT] 68 (0, 0))
  trow : wr.ownsRow 0 3 1 (.slice (some ⟨gT, 0, none⟩) psT.length capT) psT.length (psT.map I64)
  lrow : wr.ownsRow 0 47 3 lv vsL.length (vtRow vsL)
  nb : ¬ S bt
  nT : ¬ S gT
  nl : ∀ k, lv.ownBlock = some k → ¬ S k
  ob : w.heap.size ≤ bt
  oT : w.heap.size ≤ gT
  ol : ∀ k, lv.ownBlock = some k → w.heap.size ≤ k
  chg : Chg S0 w wr
  sub : ∀ k, S k → S0 k ∨ w.heap.size ≤ k

section
variable {w wr w1 w2 : World} {b bt : Nat} {S0 S S2 : Nat → Prop} {ws ps ps2 psT : List Int} {vs vs2 vsL : List Vt} {wv pv vv pv2 vv2 : Value} {gT capT : Nat} {lv : Value}

theorem Kept.lt_b (h : Kept w wr b bt S0 S ws ps psT vs vsL wv pv vv gT capT lv) : bt < wr.heap.size := (Array.getElem?_eq_some_iff.1 h.tcell).1
theorem Kept.lt_T (h : Kept w wr b bt S0 S ws ps psT vs vsL wv pv vv gT capT lv) : gT < wr.heap.size := by
  obtain ⟨cur, hc⟩ := row_type h.trow (k := gT) rfl
  exact (Array.getElem?_eq_some_iff.1 hc).1
theorem Kept.lt_l (h : Kept w wr b bt S0 S ws ps psT vs vsL wv pv vv gT capT lv) {k : Nat} (hk : lv.ownBlock = some k) : k < wr.heap.size := by
  obtain ⟨cur, hc⟩ := row_type h.lrow hk
  exact (Array.getElem?_eq_some_iff.1 hc).1
theorem Kept.c0 (h : Kept w wr b bt S0 S ws ps psT vs vsL wv pv vv gT capT lv) : wr.cell? ⟨bt, 0, none⟩ = some (.slice (some ⟨gT, 0, none⟩) psT.length capT) := by rw [cell_of_heap h.tcell]; rfl
theorem Kept.fz (h : Kept w wr b bt S0 S ws ps psT vs vsL wv pv vv gT capT lv) : wr.frozen? ⟨bt, 0, none⟩ = false := frozen_of_heap h.tcell 0
theorem Kept.treeAt (h : Kept w wr b bt S0 S ws ps psT vs vsL wv pv vv gT capT lv) (hp : 0 < psT.length) : TreeAt wr bt 0 gT capT psT := by
  obtain ⟨g, cap, he, _, _, hcs, _⟩ := row_open h.trow hp
  simp at he
  obtain ⟨rfl, rfl⟩ := he
  exact ⟨h.c0, hcs⟩

/-- The Court goes on. -/
theorem Kept.move (h : Kept w wr b bt S0 S ws ps psT vs vsL wv pv vv gT capT lv) (hC : CourtAt w2 b S2 0 ws ps2 vs2 wv pv2 vv2) (hc : Chg S wr w2) (hs : ∀ k, S2 k → S k ∨ wr.heap.size ≤ k) :
    Kept w w2 b bt S0 S2 ws ps2 psT vs2 vsL wv pv2 vv2 gT capT lv :=
  ⟨hC, (hc.block bt h.lt_b h.nb).trans h.tcell, hc.row h.trow (fun k hk => by simp [Value.ownBlock] at hk; subst hk; exact h.nT), hc.row h.lrow h.nl,
    fun hb => (hs bt hb).elim h.nb (fun hle => by have := h.lt_b; omega), fun hb => (hs gT hb).elim h.nT (fun hle => by have := h.lt_T; omega), fun k hk hb => (hs k hb).elim (h.nl k hk) (fun hle => by have := h.lt_l hk; omega),
    h.ob, h.oT, h.ol, h.chg.then hc h.sub, fun k hk => (hs k hk).elim (h.sub k) (fun hle => .inr (Nat.le_trans h.chg.size hle))⟩
theorem Kept.on (h : Kept w wr b bt S0 S ws ps psT vs vsL wv pv vv gT capT lv) (hc : Chg (fun _ => False) wr w2) : Kept w w2 b bt S0 S ws ps psT vs vsL wv pv vv gT capT lv :=
  h.move (h.court.kept hc (fun _ _ hf => hf)) (hc.mono (fun _ _ hf => hf.elim)) (fun _ hk => .inl hk)

/-- The caller's tree has a block more. -/
theorem Kept.layT (h : Kept w wr b bt S0 S ws ps psT vs vsL wv pv vv gT capT lv) {p : Int} {g cap : Nat} (hc : Chg (fun k => k = gT) wr w1) (hrow : w1.ownsRow 0 3 1 (.slice (some ⟨g, 0, none⟩) (psT ++ [p]).length cap) (psT ++ [p]).length ((psT ++ [p]).map I64)) (hg : g = gT ∨ wr.heap.size ≤ g) :
    Kept w (w1.setCell ⟨bt, 0, none⟩ (.slice (some ⟨g, 0, none⟩) (psT ++ [p]).length cap)) b bt S0 S ws ps (psT ++ [p]) vs vsL wv pv vv g cap lv := by
  have hTb : gT ≠ bt := fun e => not_row h.trow h.tcell (by decide) (by rw [← e]; rfl)
  have hb1 := (hc.block bt h.lt_b (fun e => hTb e.symm)).trans h.tcell
  have hc' : Chg (fun k => k = gT ∨ k = bt) wr (w1.setCell ⟨bt, 0, none⟩ (.slice (some ⟨g, 0, none⟩) (psT ++ [p]).length cap)) := (hc.mono (fun k _ e => .inl e)).setCell (.inl (.inr rfl)) _
  have hgb : g ≠ bt := fun e => not_row hrow hb1 (by decide) (by rw [← e]; rfl)
  have hlT : ∀ k, lv.ownBlock = some k → ¬ (k = gT ∨ k = bt) := by
    rintro k hk (rfl | rfl)
    · obtain ⟨c1, e1⟩ := row_type h.lrow hk
      exact not_row h.trow e1 (by decide) rfl
    · exact not_row h.lrow h.tcell (by decide) hk
  refine ⟨h.court.kept hc' (fun k hk => ?_), ?_, row_setCell hrow _ _ (by simp [Value.ownBlock]; exact hgb), hc'.row h.lrow hlT, h.nb, ?_, h.nl, h.ob, ?_, h.ol, h.chg.then hc' (fun k hk => ?_), h.sub⟩
  · rintro (rfl | rfl)
    · exact h.nT hk
    · exact h.nb hk
  · rw [heap_setCell_same w1 bt 0 _ _ _ hb1]; rfl
  · intro hk
    rcases hg with rfl | hg
    · exact h.nT hk
    · have := h.court.lt g hk; omega
  · rcases hg with rfl | hg
    · exact h.oT
    · exact Nat.le_trans h.chg.size hg
  · rcases hk with rfl | rfl
    · exact .inr h.oT
    · exact .inr h.ob

/-- The caller has noted a vote more. -/
theorem Kept.layL (h : Kept w wr b bt S0 S ws ps psT vs vsL wv pv vv gT capT lv) {x : Vt} {lv1 : Value} (hc : Chg (fun k => lv.ownBlock = some k) wr w1) (hrow : w1.ownsRow 0 47 3 lv1 (vsL ++ [x]).length (vtRow (vsL ++ [x])))
    (hg : ∀ k, lv1.ownBlock = some k → lv.ownBlock = some k ∨ wr.heap.size ≤ k) : Kept w w1 b bt S0 S ws ps psT vs (vsL ++ [x]) wv pv vv gT capT lv1 := by
  refine ⟨h.court.kept hc (fun k hk e => h.nl k e hk), (hc.block bt h.lt_b (fun e => not_row h.lrow h.tcell (by decide) e)).trans h.tcell, hc.row h.trow (fun k hk e => ?_), hrow, h.nb, h.nT, fun k hk hs => ?_, h.ob, h.oT, fun k hk => ?_, h.chg.then hc (fun k hk => .inr (h.ol k hk)), h.sub⟩
  · obtain ⟨c1, e1⟩ := row_type h.lrow e
    exact not_row h.trow e1 (by decide) hk
  · rcases hg k hk with e | e
    · exact h.nl k e hs
    · have := h.court.lt k hs; omega
  · rcases hg k hk with e | e
    · exact h.ol k e
    · exact Nat.le_trans h.chg.size e
end
end Go.Proofs.YtgebcnnenhgkcaaGreat
