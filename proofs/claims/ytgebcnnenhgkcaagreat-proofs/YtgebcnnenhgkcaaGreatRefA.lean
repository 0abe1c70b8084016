/- The document's own Court: Ahead, Block and Vote. -/
import Derived.Test.YtgebcnnenhgkcaaGreatFault
import Derived.Test.YtgebcnnenhgkcaaGreatBlockA
import Derived.Test.YtgebcnnenhgkcaaGreatMem2
import Derived.Test.YtgebcnnenhgkcaaGreatTreeA
import Derived.BigRegion
import Derived.Deep.RegionLaw
import Derived.Deep.DeepCutAuto
import Derived.Deep.QuietTactic
import Derived.BigQuiet
import Derived.WalkSpells
namespace Go.Proofs.YtgebcnnenhgkcaaGreat
open Go.RowKit

section
variable {w w1 : World} {b : Nat} {S : Nat → Prop} {ws ps ps' : List Int} {vs vs' : List Vt} {wv pv vv : Value}
theorem RefAt.c0 (h : RefAt w b S ws ps vs wv pv vv) : w.cell? ⟨b, 0, none⟩ = some wv := by rw [cell_of_heap h.heap]; rfl
theorem RefAt.c1 (h : RefAt w b S ws ps vs wv pv vv) : w.cell? ⟨b, 1, none⟩ = some pv := by rw [cell_of_heap h.heap]; rfl
theorem RefAt.c2 (h : RefAt w b S ws ps vs wv pv vv) : w.cell? ⟨b, 2, none⟩ = some vv := by rw [cell_of_heap h.heap]; rfl
theorem RefAt.fz (h : RefAt w b S ws ps vs wv pv vv) (o : Nat) : w.frozen? ⟨b, o, none⟩ = false := frozen_of_heap h.heap o

theorem RefAt.setP (h : RefAt w b S ws ps vs wv pv vv) (hc : Chg (fun k => pv.ownBlock = some k) w w1) {g cap : Nat}
    (hrow : w1.ownsRow 0 3 1 (.slice (some ⟨g, 0, none⟩) ps'.length cap) ps'.length (ps'.map I64)) (hg : pv.ownBlock = some g ∨ w.heap.size ≤ g) (hlt : g < w1.heap.size) :
    ∃ S' : Nat → Prop, RefAt (w1.setCell ⟨b, 1, none⟩ (.slice (some ⟨g, 0, none⟩) ps'.length cap)) b S' ws ps' vs wv (.slice (some ⟨g, 0, none⟩) ps'.length cap) vv ∧
    Chg S w (w1.setCell ⟨b, 1, none⟩ (.slice (some ⟨g, 0, none⟩) ps'.length cap)) ∧ ∀ k, S' k → S k ∨ w.heap.size ≤ k := by
  have hbl := h.lt b h.inb
  have hpb : pv.ownBlock ≠ some b := not_row h.prow h.heap (by decide)
  have hb1 : w1.heap[b]? = _ := (hc.block b hbl hpb).trans h.heap
  have hne : b ≠ g := fun e => by
    subst e
    rcases hg with hg | hg
    · exact hpb hg
    · omega
  have hvp : ∀ k, vv.ownBlock = some k → pv.ownBlock ≠ some k := fun k hk => by
    obtain ⟨c1, e1⟩ := row_type h.vrow hk
    exact not_row h.prow e1 (by decide)
  have hw1 : w1.ownsRow 0 3 1 wv ws.length (ws.map I64) := hc.row h.wrow (fun k hk hk' => h.apart k hk hk')
  have hv1 : w1.ownsRow 0 47 3 vv vs.length (vtRow vs) := hc.row h.vrow (fun k hk hk' => hvp k hk hk')
  have hwb : wv.ownBlock ≠ some b := not_row hw1 hb1 (by decide)
  have hvb : vv.ownBlock ≠ some b := not_row hv1 hb1 (by decide)
  refine ⟨fun k => (S k ∧ pv.ownBlock ≠ some k) ∨ k = g, ⟨?_, row_setCell hw1 _ _ hwb, row_setCell hrow _ _ (by simp [Value.ownBlock]; omega), row_setCell hv1 _ _ hvb, .inl ⟨h.inb, hpb⟩, fun k hk => .inl ⟨h.inw k hk, fun e => h.apart k hk e⟩, fun k hk => .inr (by simpa [Value.ownBlock] using hk.symm), fun k hk => .inl ⟨h.inv k hk, hvp k hk⟩, ?_, ?_, ?_⟩, ?_, ?_⟩
  · rw [heap_setCell_same w1 b 1 _ _ _ hb1]; rfl
  · intro k hk
    have hs : (w1.setCell ⟨b, 1, none⟩ (.slice (some ⟨g, 0, none⟩) ps'.length cap)).heap.size = w1.heap.size := by simp [World.setCell]
    rw [hs]
    rcases hk with hk | rfl
    · exact Nat.lt_of_lt_of_le (h.lt k hk.1) hc.size
    · exact hlt
  · intro k o hk ho
    by_cases e : k = b
    · subst e
      rw [heap_setCell_same w1 k 1 _ _ _ hb1] at ho
      simp at ho; subst ho; rfl
    · rw [Below.heap_setCell _ _ _ _ e] at ho
      rcases hk with hk | rfl
      · exact h.cells k o hk.1 ((hc.block k (h.lt k hk.1) hk.2).symm.trans ho)
      · obtain ⟨cur, hcur⟩ := row_type hrow (k := k) rfl
        rw [hcur] at ho; simp at ho; subst ho; rfl
  · intro k hk hk'
    simp [Value.ownBlock] at hk'
    subst hk'
    rcases hg with hg | hg
    · exact h.apart _ hk hg
    · have := h.lt _ (h.inw _ hk); omega
  · exact (hc.mono (fun k _ hk => h.inp k hk)).setCell (p := ⟨b, 1, none⟩) (.inl h.inb) _
  · rintro k (hk | rfl)
    · exact .inl hk.1
    · exact hg.elim (fun e => .inl (h.inp _ e)) .inr

theorem RefAt.setV (h : RefAt w b S ws ps vs wv pv vv) (hc : Chg (fun k => vv.ownBlock = some k) w w1) {g cap : Nat}
    (hrow : w1.ownsRow 0 47 3 (.slice (some ⟨g, 0, none⟩) vs'.length cap) vs'.length (vtRow vs')) (hg : vv.ownBlock = some g ∨ w.heap.size ≤ g) (hlt : g < w1.heap.size) :
    ∃ S' : Nat → Prop, RefAt (w1.setCell ⟨b, 2, none⟩ (.slice (some ⟨g, 0, none⟩) vs'.length cap)) b S' ws ps vs' wv pv (.slice (some ⟨g, 0, none⟩) vs'.length cap) ∧
    Chg S w (w1.setCell ⟨b, 2, none⟩ (.slice (some ⟨g, 0, none⟩) vs'.length cap)) ∧ ∀ k, S' k → S k ∨ w.heap.size ≤ k := by
  have hbl := h.lt b h.inb
  have hpb : vv.ownBlock ≠ some b := not_row h.vrow h.heap (by decide)
  have hb1 : w1.heap[b]? = _ := (hc.block b hbl hpb).trans h.heap
  have hne : b ≠ g := fun e => by
    subst e
    rcases hg with hg | hg
    · exact hpb hg
    · omega
  have hvp : ∀ k, pv.ownBlock = some k → vv.ownBlock ≠ some k := fun k hk => by
    obtain ⟨c1, e1⟩ := row_type h.prow hk
    exact not_row h.vrow e1 (by decide)
  have hwp : ∀ k, wv.ownBlock = some k → vv.ownBlock ≠ some k := fun k hk => by
    obtain ⟨c1, e1⟩ := row_type h.wrow hk
    exact not_row h.vrow e1 (by decide)
  have hw1 : w1.ownsRow 0 3 1 wv ws.length (ws.map I64) := hc.row h.wrow (fun k hk hk' => hwp k hk hk')
  have hv1 : w1.ownsRow 0 3 1 pv ps.length (ps.map I64) := hc.row h.prow (fun k hk hk' => hvp k hk hk')
  have hwb : wv.ownBlock ≠ some b := not_row hw1 hb1 (by decide)
  have hvb : pv.ownBlock ≠ some b := not_row hv1 hb1 (by decide)
  refine ⟨fun k => (S k ∧ vv.ownBlock ≠ some k) ∨ k = g, ⟨?_, row_setCell hw1 _ _ hwb, row_setCell hv1 _ _ hvb, row_setCell hrow _ _ (by simp [Value.ownBlock]; omega), .inl ⟨h.inb, hpb⟩, fun k hk => .inl ⟨h.inw k hk, hwp k hk⟩, fun k hk => .inl ⟨h.inp k hk, hvp k hk⟩, fun k hk => .inr (by simpa [Value.ownBlock] using hk.symm), ?_, ?_, h.apart⟩, ?_, ?_⟩
  · rw [heap_setCell_same w1 b 2 _ _ _ hb1]; rfl
  · intro k hk
    have hs : (w1.setCell ⟨b, 2, none⟩ (.slice (some ⟨g, 0, none⟩) vs'.length cap)).heap.size = w1.heap.size := by simp [World.setCell]
    rw [hs]
    rcases hk with hk | rfl
    · exact Nat.lt_of_lt_of_le (h.lt k hk.1) hc.size
    · exact hlt
  · intro k o hk ho
    by_cases e : k = b
    · subst e
      rw [heap_setCell_same w1 k 2 _ _ _ hb1] at ho
      simp at ho; subst ho; rfl
    · rw [Below.heap_setCell _ _ _ _ e] at ho
      rcases hk with hk | rfl
      · exact h.cells k o hk.1 ((hc.block k (h.lt k hk.1) hk.2).symm.trans ho)
      · obtain ⟨cur, hcur⟩ := row_type hrow (k := k) rfl
        rw [hcur] at ho; simp at ho; subst ho; rfl
  · exact (hc.mono (fun k _ hk => h.inv k hk)).setCell (p := ⟨b, 2, none⟩) (.inl h.inb) _
  · rintro k (hk | rfl)
    · exact .inl hk.1
    · exact hg.elim (fun e => .inl (h.inv _ e)) .inr

end

theorem refAhead_at (b g cap : Nat) (ps : List Int) (hT : Tree ps) (a k : Int) (hk0 : 0 ≤ k) (hk1 : k.toNat < ps.length) (w : World) (hA : TreeAt w b 1 g cap ps) :
    Calls Tryz.prog 106 #[.pointer (some ⟨b, 0, none⟩), .int .i64 a, .int .i64 k] w fun e w' => e = .returned (.bool (ahead ps a k)) ∧ w' = w := by
  have hlen : ps.length ≤ 40 := hT.2.1
  have hpv := hA.pv
  go_enter Tryz.func106, Tryz.ntmps106
  go_wp2
  go_loop [2] (fun p => ∃ x : Int, p = .int .i64 x ∧ 0 ≤ x ∧ x.toNat < ps.length ∧ Hid (ahead ps a k = ahead ps a x)) (fun p => (intOf p).toNat)
  case atStart => exact ⟨k, rfl, hk0, hk1, rfl⟩
  case round =>
    obtain ⟨x, rfl, hx0, hx1, hah⟩ := hrel
    by_cases hx : x = 0
    · subst hx
      go_wp2
      go_ret
      exact ⟨by rw [hah.out]; rfl, rfl⟩
    · have hxp : 0 < x := by omega
      have hxb : (x != 0) = true := by simpa using hx
      obtain ⟨p, hpe⟩ : ∃ p, ps[x.toNat]?.getD 0 = p := ⟨_, rfl⟩
      have hcx : w.cell? ⟨g, x.toNat, none⟩ = some (.int .i64 p) := by rw [← hpe]; exact hA.cs _ hx1
      have hpr := hT.2.2.2 x.toNat (by omega) hx1
      rw [hpe] at hpr
      have HS : Hid (ahead ps a x = (p == a || ahead ps a p)) := by rw [← hpe]; exact ahead_step hT hxp hx1
      clear hpe
      by_cases hap : a = p
      · subst hap
        have hb : (a == a) = true := by simp
        go_wp2
        go_ret
        exact ⟨by rw [hah.out, HS.out]; simp, rfl⟩
      · have hb : (a == p) = false := by simpa using hap
        go_wp2
        go_round
        case rel => exact ⟨p, rfl, by omega, by omega, by show _ = _; rw [hah.out, HS.out]; simp [Ne.symm hap]⟩
        case measure => simp [intOf]; omega
end Go.Proofs.YtgebcnnenhgkcaaGreat
