/- How the parts of a Court are turned, one at a time. -/
import Derived.Test.YtgebcnnenhgkcaaMem
import Derived.Deep.AppendLies
namespace Go.Proofs.Ytgebcnnenhgkcaa
open Go.RowKit

section
variable {w w1 : World} {b : Nat} {S : Nat → Prop} {m : Int} {ws ps ps' : List Int} {vs vs' : List Vt} {wv pv vv : Value}

theorem row_type {e : TypeId} {size : Nat} {v : Value} {n : Nat} {xs : List Value} (h : w.ownsRow 0 e size v n xs) {k : Nat} (hk : v.ownBlock = some k) : ∃ cur, w.heap[k]? = some (.cells cur e (0, 0)) := by
  rcases h.2 with ⟨rfl, _⟩ | ⟨g, cap, cur, rfl, _, hg, _⟩
  · simp [Value.ownBlock] at hk
  · simp [Value.ownBlock] at hk
    subst hk
    exact ⟨cur, hg⟩

theorem not_row {e t : TypeId} {size : Nat} {v : Value} {n : Nat} {xs : List Value} {cs : Array Value} (h : w.ownsRow 0 e size v n xs) {k : Nat} (hk : w.heap[k]? = some (.cells cs t (0, 0))) (hne : e ≠ t) : v.ownBlock ≠ some k := fun hv => by
  obtain ⟨cur, hc⟩ := row_type h hv
  rw [hk] at hc
  simp at hc
  exact hne hc.2.symm

/-- A store into a cell of a block leaves a row in another block. -/
theorem row_setCell {e : TypeId} {size : Nat} {v : Value} {n : Nat} {xs : List Value} (h : w.ownsRow 0 e size v n xs) (o : Nat) (u : Value) (hv : v.ownBlock ≠ some b) : (w.setCell ⟨b, o, none⟩ u).ownsRow 0 e size v n xs :=
  Chg.row (S := fun k => k = b) ((Chg.refl (fun k => k = b) w).setCell (p := ⟨b, o, none⟩) (.inl rfl) u) h (fun k hk e => hv (by rw [hk, e]))

theorem CourtAt.setP (h : CourtAt w b S m ws ps vs wv pv vv) (hc : Chg (fun k => pv.ownBlock = some k) w w1) {g cap : Nat}
    (hrow : w1.ownsRow 0 3 1 (.slice (some ⟨g, 0, none⟩) ps'.length cap) ps'.length (ps'.map I64)) (hg : pv.ownBlock = some g ∨ w.heap.size ≤ g) (hlt : g < w1.heap.size) :
    ∃ S' : Nat → Prop, CourtAt (w1.setCell ⟨b, 3, none⟩ (.slice (some ⟨g, 0, none⟩) ps'.length cap)) b S' m ws ps' vs wv (.slice (some ⟨g, 0, none⟩) ps'.length cap) vv ∧
    Chg S w (w1.setCell ⟨b, 3, none⟩ (.slice (some ⟨g, 0, none⟩) ps'.length cap)) ∧ ∀ k, S' k → S k ∨ w.heap.size ≤ k := by
  have hbl := h.lt b h.inb
  have hpb : pv.ownBlock ≠ some b := not_row h.prow h.heap (by decide)
  have hb1 : w1.heap[b]? = _ := (hc.block b hbl hpb).trans h.heap
  have hne : b ≠ g := fun e => by
    subst e
    rcases hg with hg | hg
    · exact hpb hg
    · omega
  have hvp : ∀ k, vv.ownBlock = some k → pv.ownBlock ≠ some k := fun k hk => by
    obtain ⟨c1, e1⟩ := row_type h.vrow hk
    exact not_row h.prow e1 (by decide)
  have hw1 : w1.ownsRow 0 3 1 wv ws.length (ws.map I64) := hc.row h.wrow (fun k hk hk' => h.apart k hk hk')
  have hv1 : w1.ownsRow 0 70 3 vv vs.length (vtRow vs) := hc.row h.vrow (fun k hk hk' => hvp k hk hk')
  have hwb : wv.ownBlock ≠ some b := not_row hw1 hb1 (by decide)
  have hvb : vv.ownBlock ≠ some b := not_row hv1 hb1 (by decide)
  refine ⟨fun k => (S k ∧ pv.ownBlock ≠ some k) ∨ k = g, ⟨?_, row_setCell hw1 _ _ hwb, row_setCell hrow _ _ (by simp [Value.ownBlock]; omega), row_setCell hv1 _ _ hvb, .inl ⟨h.inb, hpb⟩, fun k hk => .inl ⟨h.inw k hk, fun e => h.apart k hk e⟩, fun k hk => .inr (by simpa [Value.ownBlock] using hk.symm), fun k hk => .inl ⟨h.inv k hk, hvp k hk⟩, ?_, ?_, ?_⟩, ?_, ?_⟩
  · rw [heap_setCell_same w1 b 3 _ _ _ hb1]; rfl
  · intro k hk
    have hs : (w1.setCell ⟨b, 3, none⟩ (.slice (some ⟨g, 0, none⟩) ps'.length cap)).heap.size = w1.heap.size := by simp [World.setCell]
    rw [hs]
    rcases hk with hk | rfl
    · exact Nat.lt_of_lt_of_le (h.lt k hk.1) hc.size
    · exact hlt
  · intro k o hk ho
    by_cases e : k = b
    · subst e
      rw [heap_setCell_same w1 k 3 _ _ _ hb1] at ho
      simp at ho; subst ho; rfl
    · rw [Below.heap_setCell _ _ _ _ e] at ho
      rcases hk with hk | rfl
      · exact h.cells k o hk.1 ((hc.block k (h.lt k hk.1) hk.2).symm.trans ho)
      · obtain ⟨cur, hcur⟩ := row_type hrow (k := k) rfl
        rw [hcur] at ho; simp at ho; subst ho; rfl
  · intro k hk hk'
    simp [Value.ownBlock] at hk'
    subst hk'
    rcases hg with hg | hg
    · exact h.apart _ hk hg
    · have := h.lt _ (h.inw _ hk); omega
  · exact (hc.mono (fun k _ hk => h.inp k hk)).setCell (p := ⟨b, 3, none⟩) (.inl h.inb) _
  · rintro k (hk | rfl)
    · exact .inl hk.1
    · exact hg.elim (fun e => .inl (h.inp _ e)) .inr

theorem CourtAt.setV (h : CourtAt w b S m ws ps vs wv pv vv) (hc : Chg (fun k => vv.ownBlock = some k) w w1) {g cap : Nat}
    (hrow : w1.ownsRow 0 70 3 (.slice (some ⟨g, 0, none⟩) vs'.length cap) vs'.length (vtRow vs')) (hg : vv.ownBlock = some g ∨ w.heap.size ≤ g) (hlt : g < w1.heap.size) :
    ∃ S' : Nat → Prop, CourtAt (w1.setCell ⟨b, 4, none⟩ (.slice (some ⟨g, 0, none⟩) vs'.length cap)) b S' m ws ps vs' wv pv (.slice (some ⟨g, 0, none⟩) vs'.length cap) ∧
    Chg S w (w1.setCell ⟨b, 4, none⟩ (.slice (some ⟨g, 0, none⟩) vs'.length cap)) ∧ ∀ k, S' k → S k ∨ w.heap.size ≤ k := by
  have hbl := h.lt b h.inb
  have hpb : vv.ownBlock ≠ some b := not_row h.vrow h.heap (by decide)
  have hb1 : w1.heap[b]? = _ := (hc.block b hbl hpb).trans h.heap
  have hne : b ≠ g := fun e => by
    subst e
    rcases hg with hg | hg
    · exact hpb hg
    · omega
  have hvp : ∀ k, pv.ownBlock = some k → vv.ownBlock ≠ some k := fun k hk => by
    obtain ⟨c1, e1⟩ := row_type h.prow hk
    exact not_row h.vrow e1 (by decide)
  have hwp : ∀ k, wv.ownBlock = some k → vv.ownBlock ≠ some k := fun k hk => by
    obtain ⟨c1, e1⟩ := row_type h.wrow hk
    exact not_row h.vrow e1 (by decide)
  have hw1 : w1.ownsRow 0 3 1 wv ws.length (ws.map I64) := hc.row h.wrow (fun k hk hk' => hwp k hk hk')
  have hv1 : w1.ownsRow 0 3 1 pv ps.length (ps.map I64) := hc.row h.prow (fun k hk hk' => hvp k hk hk')
  have hwb : wv.ownBlock ≠ some b := not_row hw1 hb1 (by decide)
  have hvb : pv.ownBlock ≠ some b := not_row hv1 hb1 (by decide)
  refine ⟨fun k => (S k ∧ vv.ownBlock ≠ some k) ∨ k = g, ⟨?_, row_setCell hw1 _ _ hwb, row_setCell hv1 _ _ hvb, row_setCell hrow _ _ (by simp [Value.ownBlock]; omega), .inl ⟨h.inb, hpb⟩, fun k hk => .inl ⟨h.inw k hk, hwp k hk⟩, fun k hk => .inl ⟨h.inp k hk, hvp k hk⟩, fun k hk => .inr (by simpa [Value.ownBlock] using hk.symm), ?_, ?_, h.apart⟩, ?_, ?_⟩
  · rw [heap_setCell_same w1 b 4 _ _ _ hb1]; rfl
  · intro k hk
    have hs : (w1.setCell ⟨b, 4, none⟩ (.slice (some ⟨g, 0, none⟩) vs'.length cap)).heap.size = w1.heap.size := by simp [World.setCell]
    rw [hs]
    rcases hk with hk | rfl
    · exact Nat.lt_of_lt_of_le (h.lt k hk.1) hc.size
    · exact hlt
  · intro k o hk ho
    by_cases e : k = b
    · subst e
      rw [heap_setCell_same w1 k 4 _ _ _ hb1] at ho
      simp at ho; subst ho; rfl
    · rw [Below.heap_setCell _ _ _ _ e] at ho
      rcases hk with hk | rfl
      · exact h.cells k o hk.1 ((hc.block k (h.lt k hk.1) hk.2).symm.trans ho)
      · obtain ⟨cur, hcur⟩ := row_type hrow (k := k) rfl
        rw [hcur] at ho; simp at ho; subst ho; rfl
  · exact (hc.mono (fun k _ hk => h.inv k hk)).setCell (p := ⟨b, 4, none⟩) (.inl h.inb) _
  · rintro k (hk | rfl)
    · exact .inl hk.1
    · exact hg.elim (fun e => .inl (h.inv _ e)) .inr

/-- The mutex' word alone. -/
theorem CourtAt.setM (h : CourtAt w b S m ws ps vs wv pv vv) (m' : Int) :
    CourtAt (w.setCell ⟨b, 0, none⟩ (.int .i32 m')) b S m' ws ps vs wv pv vv ∧ Chg S w (w.setCell ⟨b, 0, none⟩ (.int .i32 m')) := by
  have hwb : wv.ownBlock ≠ some b := not_row h.wrow h.heap (by decide)
  have hpb : pv.ownBlock ≠ some b := not_row h.prow h.heap (by decide)
  have hvb : vv.ownBlock ≠ some b := not_row h.vrow h.heap (by decide)
  refine ⟨⟨?_, row_setCell h.wrow _ _ hwb, row_setCell h.prow _ _ hpb, row_setCell h.vrow _ _ hvb, h.inb, h.inw, h.inp, h.inv, fun k hk => by simpa [World.setCell] using h.lt k hk, ?_, h.apart⟩, (Chg.refl _ w).setCell (p := ⟨b, 0, none⟩) (.inl h.inb) _⟩
  · rw [heap_setCell_same w b 0 _ _ _ h.heap]; rfl
  · intro k o hk ho
    by_cases e : k = b
    · subst e
      rw [heap_setCell_same w k 0 _ _ _ h.heap] at ho
      simp at ho; subst ho; rfl
    · rw [Below.heap_setCell _ _ _ _ e] at ho
      exact h.cells k o hk ho

/-- A row cut short. -/
theorem row_cut {e : TypeId} {size : Nat} {a : Addr} {n k cap : Nat} {xs ys : List Value} (h : w.ownsRow 0 e size (.slice (some a) n cap) n (xs ++ ys)) (hk : k ≤ n) (hx : xs.length = k * size) : w.ownsRow 0 e size (.slice (some a) k cap) k xs := by
  refine ⟨hx, ?_⟩
  rcases h.2 with ⟨h', _⟩ | ⟨g, cap', cur, h', hb, hg, hle, hm, hs, ht⟩
  · simp at h'
  · simp only [Value.slice.injEq, Option.some.injEq, true_and] at h'
    obtain ⟨rfl, rfl⟩ := h'
    refine .inr ⟨g, cap, cur, rfl, hb, hg, by omega, hm, hs, ?_⟩
    have : cur.toList.take (k * size) = (cur.toList.take (n * size)).take (k * size) := by
      rw [List.take_take, Nat.min_eq_left (Nat.mul_le_mul_right _ hk)]
    rw [this, ht, ← hx]
    exact List.take_left
end
end Go.Proofs.Ytgebcnnenhgkcaa
