/- Memory: which blocks a call may turn; how a Court of the program and the document's own lie in memory. -/
import Derived.ProofKit
import Derived.RangeFuncWrites
import Derived.WalkSmall
import Derived.Deep.AppendLies
import Derived.Deep.QuietTactic
import Derived.BigQuiet
import Derived.WalkSpells
import Derived.Test.YtgebcnnenhgkcaaGreatB01
namespace Go.Proofs.YtgebcnnenhgkcaaGreat
open Go.RowKit

/-- Whatever lay outside S lies as it lay. -/
structure Chg (S : Nat → Prop) (w w' : World) : Prop where
  os : w'.os = w.os
  tape : w'.tape = w.tape
  output : w'.output = w.output
  size : w.heap.size ≤ w'.heap.size
  block : ∀ k, k < w.heap.size → ¬ S k → w'.heap[k]? = w.heap[k]?

theorem Chg.refl (S : Nat → Prop) (w : World) : Chg S w w := ⟨rfl, rfl, rfl, Nat.le_refl _, fun _ _ _ => rfl⟩
theorem Chg.trans {S : Nat → Prop} {a b c : World} (h : Chg S a b) (k : Chg S b c) : Chg S a c :=
  ⟨k.os.trans h.os, k.tape.trans h.tape, k.output.trans h.output, Nat.le_trans h.size k.size, fun i hi hs => (k.block i (Nat.lt_of_lt_of_le hi h.size) hs).trans (h.block i hi hs)⟩
theorem Chg.mono {S T : Nat → Prop} {a b : World} (h : Chg S a b) (hs : ∀ k, k < a.heap.size → S k → T k) : Chg T a b :=
  ⟨h.os, h.tape, h.output, h.size, fun i hi ht => h.block i hi (fun x => ht (hs i hi x))⟩
/-- Two steps, the second of which may also turn what the first has laid. -/
theorem Chg.then {S T : Nat → Prop} {a b c : World} (h : Chg S a b) (k : Chg T b c) (hs : ∀ i, T i → S i ∨ a.heap.size ≤ i) : Chg S a c :=
  ⟨k.os.trans h.os, k.tape.trans h.tape, k.output.trans h.output, Nat.le_trans h.size k.size, fun i hi hn =>
    (k.block i (Nat.lt_of_lt_of_le hi h.size) (fun ht => (hs i ht).elim hn (fun hle => by omega))).trans (h.block i hi hn)⟩
theorem Chg.drew {S : Nat → Prop} {a w : World} (h : Chg S a w) : Chg S a w.drew := ⟨h.os, h.tape, h.output, h.size, h.block⟩
theorem Chg.alloc {S : Nat → Prop} {a w : World} (h : Chg S a w) (o : Obj) : Chg S a (w.alloc o) :=
  h.trans ⟨rfl, rfl, rfl, by simp, fun k hk _ => Below.heap_alloc _ _ _ hk⟩
theorem Chg.setCell {S : Nat → Prop} {a w : World} (h : Chg S a w) {p : Addr} (hp : S p.block ∨ a.heap.size ≤ p.block) (u : Value) : Chg S a (w.setCell p u) :=
  h.then (T := fun k => k = p.block) ⟨rfl, rfl, rfl, by simp [World.setCell], fun k _ hn => Below.heap_setCell _ _ _ _ hn⟩ (fun i e => by subst e; exact hp)
theorem Chg.grown {S : Nat → Prop} {a w w' : World} {row : Option Nat} (h : Chg S a w) (hg : w.grownBy w' row) (hr : ∀ k, row = some k → S k ∨ a.heap.size ≤ k) : Chg S a w' :=
  h.then (T := fun k => row = some k) ⟨hg.os, hg.tape, hg.output, hg.size, fun k hk hn => hg.block k hk (fun e => hn e.symm)⟩ (fun i e => hr i e)
theorem Chg.of_below {w w' : World} (S : Nat → Prop) (h : Below w.heap.size w w') : Chg S w w' := ⟨h.os, h.tape, h.output, h.size, fun k hk _ => h.block k hk⟩
theorem Chg.below {S : Nat → Prop} {w w' : World} {B : Nat} (h : Chg S w w') (hB : B ≤ w.heap.size) (hs : ∀ k, k < B → ¬ S k) : Below B w w' :=
  ⟨h.os, h.tape, h.output, h.size, fun k hk => h.block k (by omega) (hs k hk)⟩
theorem Chg.keeps {S : Nat → Prop} {w w' : World} (h : Chg S w w') (hs : ∀ k o, S k → w.heap[k]? = some o → o.isCells = true) : KeepsOthers w w' :=
  ⟨h.size, fun k o hk ho => by
    refine (h.block k (Array.getElem?_eq_some_iff.1 hk).1 (fun hS => ?_)).trans hk
    have := hs k o hS hk
    rw [ho] at this; cases this⟩
theorem Chg.cell {S : Nat → Prop} {w w' : World} (h : Chg S w w') {a : Addr} {v : Value} (hc : w.cell? a = some v) (hs : ¬ S a.block) : w'.cell? a = some v :=
  (World.cell?_of_block (h.block a.block (World.block_lt_of_cell? w a hc) hs)).trans hc
theorem Chg.row {S : Nat → Prop} {w w' : World} (h : Chg S w w') {base : Nat} {e : TypeId} {size : Nat} {v : Value} {n : Nat} {xs : List Value} (hr : w.ownsRow base e size v n xs) (hs : ∀ k, v.ownBlock = some k → ¬ S k) : w'.ownsRow base e size v n xs := by
  refine ⟨hr.1, ?_⟩
  rcases hr.2 with hn | ⟨g, cap, cur, rfl, hb, hgg, rest⟩
  · exact .inl hn
  · exact .inr ⟨g, cap, cur, rfl, hb, (h.block g (Array.getElem?_eq_some_iff.1 hgg).1 (hs g rfl)).trans hgg, rest⟩

/-- A Court of the program: the block of its struct, its three rows, in the blocks S; m: the mutex' word. -/
structure CourtAt (w : World) (b : Nat) (S : Nat → Prop) (m : Int) (ws ps : List Int) (vs : List Vt) (wv pv vv : Value) : Prop where
  heap : w.heap[b]? = some (.cells #[.int .i32 m, .int .u32 0, wv, pv, vv] 100 (0, 0))
  wrow : w.ownsRow 0 3 1 wv ws.length (ws.map I64)
  prow : w.ownsRow 0 3 1 pv ps.length (ps.map I64)
  vrow : w.ownsRow 0 47 3 vv vs.length (vtRow vs)
  inb : S b
  inw : ∀ k, wv.ownBlock = some k → S k
  inp : ∀ k, pv.ownBlock = some k → S k
  inv : ∀ k, vv.ownBlock = some k → S k
  lt : ∀ k, S k → k < w.heap.size
  cells : ∀ k o, S k → w.heap[k]? = some o → o.isCells = true
  apart : ∀ k, wv.ownBlock = some k → pv.ownBlock = some k → False

/-- The document's Court. -/
structure RefAt (w : World) (b : Nat) (S : Nat → Prop) (ws ps : List Int) (vs : List Vt) (wv pv vv : Value) : Prop where
  heap : w.heap[b]? = some (.cells #[wv, pv, vv] 41 (0, 0))
  wrow : w.ownsRow 0 3 1 wv ws.length (ws.map I64)
  prow : w.ownsRow 0 3 1 pv ps.length (ps.map I64)
  vrow : w.ownsRow 0 47 3 vv vs.length (vtRow vs)
  inb : S b
  inw : ∀ k, wv.ownBlock = some k → S k
  inp : ∀ k, pv.ownBlock = some k → S k
  inv : ∀ k, vv.ownBlock = some k → S k
  lt : ∀ k, S k → k < w.heap.size
  cells : ∀ k o, S k → w.heap[k]? = some o → o.isCells = true
  apart : ∀ k, wv.ownBlock = some k → pv.ownBlock = some k → False

section
variable {w w' : World} {b : Nat} {S : Nat → Prop} {m : Int} {ws ps : List Int} {vs : List Vt} {wv pv vv : Value}

theorem cell_of_heap {w : World} {b : Nat} {cs : Array Value} {t : TypeId} {r : Nat × Nat} (h : w.heap[b]? = some (.cells cs t r)) (o : Nat) : w.cell? ⟨b, o, none⟩ = cs[o]? := by
  simp [World.cell?, h]
theorem frozen_of_heap {w : World} {b : Nat} {cs : Array Value} {t : TypeId} (h : w.heap[b]? = some (.cells cs t (0, 0))) (o : Nat) : w.frozen? ⟨b, o, none⟩ = false := by
  simp [World.frozen?, h]

theorem CourtAt.c0 (h : CourtAt w b S m ws ps vs wv pv vv) : w.cell? ⟨b, 0, none⟩ = some (.int .i32 m) := by rw [cell_of_heap h.heap]; rfl
theorem CourtAt.c2 (h : CourtAt w b S m ws ps vs wv pv vv) : w.cell? ⟨b, 2, none⟩ = some wv := by rw [cell_of_heap h.heap]; rfl
theorem CourtAt.c3 (h : CourtAt w b S m ws ps vs wv pv vv) : w.cell? ⟨b, 3, none⟩ = some pv := by rw [cell_of_heap h.heap]; rfl
theorem CourtAt.c4 (h : CourtAt w b S m ws ps vs wv pv vv) : w.cell? ⟨b, 4, none⟩ = some vv := by rw [cell_of_heap h.heap]; rfl
theorem CourtAt.fz (h : CourtAt w b S m ws ps vs wv pv vv) (o : Nat) : w.frozen? ⟨b, o, none⟩ = false := frozen_of_heap h.heap o

/-- It lies on where what it owns is not turned. -/
theorem CourtAt.kept {T : Nat → Prop} (h : CourtAt w b S m ws ps vs wv pv vv) (hc : Chg T w w') (hd : ∀ k, S k → ¬ T k) : CourtAt w' b S m ws ps vs wv pv vv :=
  ⟨(hc.block b (h.lt b h.inb) (hd b h.inb)).trans h.heap, hc.row h.wrow (fun k hk => hd k (h.inw k hk)), hc.row h.prow (fun k hk => hd k (h.inp k hk)), hc.row h.vrow (fun k hk => hd k (h.inv k hk)),
    h.inb, h.inw, h.inp, h.inv, fun k hk => Nat.lt_of_lt_of_le (h.lt k hk) hc.size, fun k o hk ho => h.cells k o hk ((hc.block k (h.lt k hk) (hd k hk)).symm.trans ho), h.apart⟩
theorem RefAt.kept {T : Nat → Prop} (h : RefAt w b S ws ps vs wv pv vv) (hc : Chg T w w') (hd : ∀ k, S k → ¬ T k) : RefAt w' b S ws ps vs wv pv vv :=
  ⟨(hc.block b (h.lt b h.inb) (hd b h.inb)).trans h.heap, hc.row h.wrow (fun k hk => hd k (h.inw k hk)), hc.row h.prow (fun k hk => hd k (h.inp k hk)), hc.row h.vrow (fun k hk => hd k (h.inv k hk)),
    h.inb, h.inw, h.inp, h.inv, fun k hk => Nat.lt_of_lt_of_le (h.lt k hk) hc.size, fun k o hk ho => h.cells k o hk ((hc.block k (h.lt k hk) (hd k hk)).symm.trans ho), h.apart⟩

/-- A row of numbers: its address and its cells. -/
theorem row_open {xs : List Int} {v : Value} (h : w.ownsRow 0 3 1 v xs.length (xs.map I64)) (hp : 0 < xs.length) :
    ∃ g cap, v = .slice (some ⟨g, 0, none⟩) xs.length cap ∧ xs.length ≤ cap ∧ cap ≤ maxLen ∧ (∀ j, j < xs.length → w.cell? ⟨g, j, none⟩ = some (I64 (xs[j]?.getD 0))) ∧ ∀ j, w.frozen? ⟨g, j, none⟩ = false := by
  have h' := h
  rcases h.2 with ⟨_, hn⟩ | ⟨g, cap, cur, rfl, _, hg, hle, hm, hs, ht⟩
  · omega
  · refine ⟨g, cap, rfl, hle, hm, fun j hj => ?_, fun j => h'.frozenAt j⟩
    rw [h'.cellAt j (by omega)]
    simp [hj]
end
end Go.Proofs.YtgebcnnenhgkcaaGreat
/- How the parts of a Court are turned, one at a time. -/
namespace Go.Proofs.YtgebcnnenhgkcaaGreat
open Go.RowKit

section
variable {w w1 : World} {b : Nat} {S : Nat → Prop} {m : Int} {ws ps ps' : List Int} {vs vs' : List Vt} {wv pv vv : Value}

theorem row_type {e : TypeId} {size : Nat} {v : Value} {n : Nat} {xs : List Value} (h : w.ownsRow 0 e size v n xs) {k : Nat} (hk : v.ownBlock = some k) : ∃ cur, w.heap[k]? = some (.cells cur e (0, 0)) := by
  rcases h.2 with ⟨rfl, _⟩ | ⟨g, cap, cur, rfl, _, hg, _⟩
  · simp [Value.ownBlock] at hk
  · simp [Value.ownBlock] at hk
    subst hk
    exact ⟨cur, hg⟩

theorem not_row {e t : TypeId} {size : Nat} {v : Value} {n : Nat} {xs : List Value} {cs : Array Value} (h : w.ownsRow 0 e size v n xs) {k : Nat} (hk : w.heap[k]? = some (.cells cs t (0, 0))) (hne : e ≠ t) : v.ownBlock ≠ some k := fun hv => by
  obtain ⟨cur, hc⟩ := row_type h hv
  rw [hk] at hc
  simp at hc
  exact hne hc.2.symm

/-- A store into a cell of a block leaves a row in another block. -/
theorem row_setCell {e : TypeId} {size : Nat} {v : Value} {n : Nat} {xs : List Value} (h : w.ownsRow 0 e size v n xs) (o : Nat) (u : Value) (hv : v.ownBlock ≠ some b) : (w.setCell ⟨b, o, none⟩ u).ownsRow 0 e size v n xs :=
  Chg.row (S := fun k => k = b) ((Chg.refl (fun k => k = b) w).setCell (p := ⟨b, o, none⟩) (.inl rfl) u) h (fun k hk e => hv (by rw [hk, e]))

theorem CourtAt.setP (h : CourtAt w b S m ws ps vs wv pv vv) (hc : Chg (fun k => pv.ownBlock = some k) w w1) {g cap : Nat}
    (hrow : w1.ownsRow 0 3 1 (.slice (some ⟨g, 0, none⟩) ps'.length cap) ps'.length (ps'.map I64)) (hg : pv.ownBlock = some g ∨ w.heap.size ≤ g) (hlt : g < w1.heap.size) :
    ∃ S' : Nat → Prop, CourtAt (w1.setCell ⟨b, 3, none⟩ (.slice (some ⟨g, 0, none⟩) ps'.length cap)) b S' m ws ps' vs wv (.slice (some ⟨g, 0, none⟩) ps'.length cap) vv ∧
    Chg S w (w1.setCell ⟨b, 3, none⟩ (.slice (some ⟨g, 0, none⟩) ps'.length cap)) ∧ ∀ k, S' k → S k ∨ w.heap.size ≤ k := by
  have hbl := h.lt b h.inb
  have hpb : pv.ownBlock ≠ some b := not_row h.prow h.heap (by decide)
  have hb1 : w1.heap[b]? = _ := (hc.block b hbl hpb).trans h.heap
  have hne : b ≠ g := fun e => by
    subst e
    rcases hg with hg | hg
    · exact hpb hg
    · omega
  have hvp : ∀ k, vv.ownBlock = some k → pv.ownBlock ≠ some k := fun k hk => by
    obtain ⟨c1, e1⟩ := row_type h.vrow hk
    exact not_row h.prow e1 (by decide)
  have hw1 : w1.ownsRow 0 3 1 wv ws.length (ws.map I64) := hc.row h.wrow (fun k hk hk' => h.apart k hk hk')
  have hv1 : w1.ownsRow 0 47 3 vv vs.length (vtRow vs) := hc.row h.vrow (fun k hk hk' => hvp k hk hk')
  have hwb : wv.ownBlock ≠ some b := not_row hw1 hb1 (by decide)
  have hvb : vv.ownBlock ≠ some b := not_row hv1 hb1 (by decide)
  refine ⟨fun k => (S k ∧ pv.ownBlock ≠ some k) ∨ k = g, ⟨?_, row_setCell hw1 _ _ hwb, row_setCell hrow _ _ (by simp [Value.ownBlock]; omega), row_setCell hv1 _ _ hvb, .inl ⟨h.inb, hpb⟩, fun k hk => .inl ⟨h.inw k hk, fun e => h.apart k hk e⟩, fun k hk => .inr (by simpa [Value.ownBlock] using hk.symm), fun k hk => .inl ⟨h.inv k hk, hvp k hk⟩, ?_, ?_, ?_⟩, ?_, ?_⟩
  · rw [heap_setCell_same w1 b 3 _ _ _ hb1]; rfl
  · intro k hk
    have hs : (w1.setCell ⟨b, 3, none⟩ (.slice (some ⟨g, 0, none⟩) ps'.length cap)).heap.size = w1.heap.size := by simp [World.setCell]
    rw [hs]
    rcases hk with hk | rfl
    · exact Nat.lt_of_lt_of_le (h.lt k hk.1) hc.size
    · exact hlt
  · intro k o hk ho
    by_cases e : k = b
    · subst e
      rw [heap_setCell_same w1 k 3 _ _ _ hb1] at ho
      simp at ho; subst ho; rfl
    · rw [Below.heap_setCell _ _ _ _ e] at ho
      rcases hk with hk | rfl
      · exact h.cells k o hk.1 ((hc.block k (h.lt k hk.1) hk.2).symm.trans ho)
      · obtain ⟨cur, hcur⟩ := row_type hrow (k := k) rfl
        rw [hcur] at ho; simp at ho; subst ho; rfl
  · intro k hk hk'
    simp [Value.ownBlock] at hk'
    subst hk'
    rcases hg with hg | hg
    · exact h.apart _ hk hg
    · have := h.lt _ (h.inw _ hk); omega
  · exact (hc.mono (fun k _ hk => h.inp k hk)).setCell (p := ⟨b, 3, none⟩) (.inl h.inb) _
  · rintro k (hk | rfl)
    · exact .inl hk.1
    · exact hg.elim (fun e => .inl (h.inp _ e)) .inr

theorem CourtAt.setV (h : CourtAt w b S m ws ps vs wv pv vv) (hc : Chg (fun k => vv.ownBlock = some k) w w1) {g cap : Nat}
    (hrow : w1.ownsRow 0 47 3 (.slice (some ⟨g, 0, none⟩) vs'.length cap) vs'.length (vtRow vs')) (hg : vv.ownBlock = some g ∨ w.heap.size ≤ g) (hlt : g < w1.heap.size) :
    ∃ S' : Nat → Prop, CourtAt (w1.setCell ⟨b, 4, none⟩ (.slice (some ⟨g, 0, none⟩) vs'.length cap)) b S' m ws ps vs' wv pv (.slice (some ⟨g, 0, none⟩) vs'.length cap) ∧
    Chg S w (w1.setCell ⟨b, 4, none⟩ (.slice (some ⟨g, 0, none⟩) vs'.length cap)) ∧ ∀ k, S' k → S k ∨ w.heap.size ≤ k := by
  have hbl := h.lt b h.inb
  have hpb : vv.ownBlock ≠ some b := not_row h.vrow h.heap (by decide)
  have hb1 : w1.heap[b]? = _ := (hc.block b hbl hpb).trans h.heap
  have hne : b ≠ g := fun e => by
    subst e
    rcases hg with hg | hg
    · exact hpb hg
    · omega
  have hvp : ∀ k, pv.ownBlock = some k → vv.ownBlock ≠ some k := fun k hk => by
    obtain ⟨c1, e1⟩ := row_type h.prow hk
    exact not_row h.vrow e1 (by decide)
  have hwp : ∀ k, wv.ownBlock = some k → vv.ownBlock ≠ some k := fun k hk => by
    obtain ⟨c1, e1⟩ := row_type h.wrow hk
    exact not_row h.vrow e1 (by decide)
  have hw1 : w1.ownsRow 0 3 1 wv ws.length (ws.map I64) := hc.row h.wrow (fun k hk hk' => hwp k hk hk')
  have hv1 : w1.ownsRow 0 3 1 pv ps.length (ps.map I64) := hc.row h.prow (fun k hk hk' => hvp k hk hk')
  have hwb : wv.ownBlock ≠ some b := not_row hw1 hb1 (by decide)
  have hvb : pv.ownBlock ≠ some b := not_row hv1 hb1 (by decide)
  refine ⟨fun k => (S k ∧ vv.ownBlock ≠ some k) ∨ k = g, ⟨?_, row_setCell hw1 _ _ hwb, row_setCell hv1 _ _ hvb, row_setCell hrow _ _ (by simp [Value.ownBlock]; omega), .inl ⟨h.inb, hpb⟩, fun k hk => .inl ⟨h.inw k hk, hwp k hk⟩, fun k hk => .inl ⟨h.inp k hk, hvp k hk⟩, fun k hk => .inr (by simpa [Value.ownBlock] using hk.symm), ?_, ?_, h.apart⟩, ?_, ?_⟩
  · rw [heap_setCell_same w1 b 4 _ _ _ hb1]; rfl
  · intro k hk
    have hs : (w1.setCell ⟨b, 4, none⟩ (.slice (some ⟨g, 0, none⟩) vs'.length cap)).heap.size = w1.heap.size := by simp [World.setCell]
    rw [hs]
    rcases hk with hk | rfl
    · exact Nat.lt_of_lt_of_le (h.lt k hk.1) hc.size
    · exact hlt
  · intro k o hk ho
    by_cases e : k = b
    · subst e
      rw [heap_setCell_same w1 k 4 _ _ _ hb1] at ho
      simp at ho; subst ho; rfl
    · rw [Below.heap_setCell _ _ _ _ e] at ho
      rcases hk with hk | rfl
      · exact h.cells k o hk.1 ((hc.block k (h.lt k hk.1) hk.2).symm.trans ho)
      · obtain ⟨cur, hcur⟩ := row_type hrow (k := k) rfl
        rw [hcur] at ho; simp at ho; subst ho; rfl
  · exact (hc.mono (fun k _ hk => h.inv k hk)).setCell (p := ⟨b, 4, none⟩) (.inl h.inb) _
  · rintro k (hk | rfl)
    · exact .inl hk.1
    · exact hg.elim (fun e => .inl (h.inv _ e)) .inr

/-- The mutex' word alone. -/
theorem CourtAt.setM (h : CourtAt w b S m ws ps vs wv pv vv) (m' : Int) :
    CourtAt (w.setCell ⟨b, 0, none⟩ (.int .i32 m')) b S m' ws ps vs wv pv vv ∧ Chg S w (w.setCell ⟨b, 0, none⟩ (.int .i32 m')) := by
  have hwb : wv.ownBlock ≠ some b := not_row h.wrow h.heap (by decide)
  have hpb : pv.ownBlock ≠ some b := not_row h.prow h.heap (by decide)
  have hvb : vv.ownBlock ≠ some b := not_row h.vrow h.heap (by decide)
  refine ⟨⟨?_, row_setCell h.wrow _ _ hwb, row_setCell h.prow _ _ hpb, row_setCell h.vrow _ _ hvb, h.inb, h.inw, h.inp, h.inv, fun k hk => by simpa [World.setCell] using h.lt k hk, ?_, h.apart⟩, (Chg.refl _ w).setCell (p := ⟨b, 0, none⟩) (.inl h.inb) _⟩
  · rw [heap_setCell_same w b 0 _ _ _ h.heap]; rfl
  · intro k o hk ho
    by_cases e : k = b
    · subst e
      rw [heap_setCell_same w k 0 _ _ _ h.heap] at ho
      simp at ho; subst ho; rfl
    · rw [Below.heap_setCell _ _ _ _ e] at ho
      exact h.cells k o hk ho

/-- A row cut short. -/
theorem row_cut {e : TypeId} {size : Nat} {a : Addr} {n k cap : Nat} {xs ys : List Value} (h : w.ownsRow 0 e size (.slice (some a) n cap) n (xs ++ ys)) (hk : k ≤ n) (hx : xs.length = k * size) : w.ownsRow 0 e size (.slice (some a) k cap) k xs := by
  refine ⟨hx, ?_⟩
  rcases h.2 with ⟨h', _⟩ | ⟨g, cap', cur, h', hb, hg, hle, hm, hs, ht⟩
  · simp at h'
  · simp only [Value.slice.injEq, Option.some.injEq, true_and] at h'
    obtain ⟨rfl, rfl⟩ := h'
    refine .inr ⟨g, cap, cur, rfl, hb, hg, by omega, hm, hs, ?_⟩
    have : cur.toList.take (k * size) = (cur.toList.take (n * size)).take (k * size) := by
      rw [List.take_take, Nat.min_eq_left (Nat.mul_le_mul_right _ hk)]
    rw [this, ht, ← hx]
    exact List.take_left
end
end Go.Proofs.YtgebcnnenhgkcaaGreat
/- The statements' own small functions over lists of numbers; the weights' tests. -/
namespace Go.Proofs.YtgebcnnenhgkcaaGreat
open Go.RowKit

/-- The numbers xs lie in memory from the address p on. -/
def IntsAt (w : World) (p : Option Addr) (xs : List Int) : Prop :=
  xs = [] ∨ ∃ g o, p = some ⟨g, o, none⟩ ∧ ∀ j, j < xs.length → w.cell? ⟨g, o + j, none⟩ = some (I64 (xs[j]?.getD 0))

theorem IntsAt.below {w w' : World} {p : Option Addr} {xs : List Int} (h : IntsAt w p xs) (hB : Below w.heap.size w w') : IntsAt w' p xs := by
  rcases h with h | ⟨g, o, h1, h2⟩
  · exact .inl h
  · exact .inr ⟨g, o, h1, fun j hj => (hB.cell (p := ⟨g, o + j, none⟩) (World.block_lt_of_cell? w _ (h2 j hj))).trans (h2 j hj)⟩

theorem IntsAt.chg {S : Nat → Prop} {w w' : World} {p : Option Addr} {xs : List Int} (h : IntsAt w p xs) (hc : Chg S w w') (hd : ∀ k, Value.ownBlock (.slice p 0 0) = some k → ¬ S k) : IntsAt w' p xs := by
  rcases h with h | ⟨g, o, rfl, h2⟩
  · exact .inl h
  · exact .inr ⟨g, o, rfl, fun j hj => hc.cell (h2 j hj) (hd g rfl)⟩

theorem IntsAt.take {w : World} {p : Option Addr} {xs ys : List Int} (h : IntsAt w p (xs ++ ys)) : IntsAt w p xs := by
  rcases h with h | ⟨g, o, h1, h2⟩
  · exact .inl (List.append_eq_nil_iff.1 h).1
  · refine .inr ⟨g, o, h1, fun j hj => ?_⟩
    rw [h2 j (by simp; omega), List.getElem?_append_left hj]

theorem drewN2 (w : World) (n m : Nat) : (w.drewN n).drewN m = w.drewN (n + m) := by simp [World.drewN, Nat.add_assoc]

set_option maxHeartbeats 1000000 in
theorem sameInts_at (p q : Option Addr) (c d : Nat) (xs ys : List Int) (w : World) (hx : IntsAt w p xs) (hy : IntsAt w q ys) (hl : xs.length ≤ maxLen) :
    Calls Tryz.prog 72 #[.slice p xs.length c, .slice q ys.length d] w fun e w' => e = .returned (.bool (decide (xs = ys))) ∧ ∃ n, w' = w.drewN n := by
  unfold maxLen at hl
  by_cases hlen : xs.length = ys.length
  · have hle : (xs.length : Int) ≤ 9223372036854775807 := by omega
    have hnb : ((xs.length : Int) != (ys.length : Int)) = false := by simp; omega
    have HL : Hid (xs.length = ys.length) := hlen
    clear hlen
    go_enter Tryz.func72, Tryz.ntmps72
    go_wp2
    go_loopw [5] (fun i wr => ∃ k : Nat, k ≤ xs.length ∧ i = .int .i64 k ∧ Hid (xs.take k = ys.take k) ∧ ∃ n, wr = w.drewN n)
      (fun i _ => xs.length - (intOf i).toNat)
    case atStart => exact ⟨0, by omega, rfl, by simp [Hid], 0, rfl⟩
    case round =>
      obtain ⟨k, hk, rfl, heq, n, rfl⟩ := hrel
      by_cases hlt : k < xs.length
      · have hlt2 : k < ys.length := by have := HL.out; omega
        rcases hx with rfl | ⟨g, o, rfl, hcx⟩
        · simp at hlt
        rcases hy with rfl | ⟨g2, o2, rfl, hcy⟩
        · simp at hlt2
        obtain ⟨a, ha⟩ : ∃ a, xs[k]?.getD 0 = a := ⟨_, rfl⟩
        obtain ⟨b, hb⟩ : ∃ b, ys[k]?.getD 0 = b := ⟨_, rfl⟩
        have h1 : w.cell? ⟨g, o + k, none⟩ = some (I64 a) := by rw [← ha]; exact hcx k hlt
        have h2 : w.cell? ⟨g2, o2 + k, none⟩ = some (I64 b) := by rw [← hb]; exact hcy k hlt2
        have HA : Hid (xs[k]? = some a) := by show _ = _; rw [← ha]; simp [hlt]
        have HB : Hid (ys[k]? = some b) := by show _ = _; rw [← hb]; simp [hlt2]
        clear ha hb hcx hcy
        have hlt' : (k : Int) < (xs.length : Int) := by omega
        have hlt2' : (k : Int) < (ys.length : Int) := by omega
        have hk1 : (k : Int) + 1 ≤ 9223372036854775807 := by omega
        by_cases hab : a = b
        · have hne : (a != b) = false := by simpa using hab
          have HAB := hab
          have hnext : Hid (xs.take (k + 1) = ys.take (k + 1)) := by
            show _ = _
            rw [List.take_add_one, List.take_add_one, HA.out, HB.out, heq.out, hab]
          clear hab HAB
          go_wp2
          go_quiet (fail)
          go_wp2
          go_roundw
          case rel => exact ⟨k + 1, by omega, by go_num, hnext, _, rfl⟩
          case measure => simp [intOf]; omega
        · have hne : (a != b) = true := by simpa using hab
          have HN : Hid (¬ a = b) := hab
          clear hab
          go_wp2
          go_quiet (fail)
          go_wp2
          go_ret
          refine ⟨?_, _, drewN2 _ _ _⟩
          have hd : decide (xs = ys) = false := by
            simp
            rintro rfl
            have := HA.out.symm.trans HB.out
            simp at this
            exact HN.out this
          rw [hd]; rfl
      · go_wp2
        go_ret
        refine ⟨?_, _, rfl⟩
        have hd : decide (xs = ys) = true := by
          have := heq.out
          rw [List.take_of_length_le (by omega), List.take_of_length_le (by have := HL.out; omega)] at this
          simpa using this
        rw [hd]; rfl
  · have hnb : ((xs.length : Int) != (ys.length : Int)) = true := by simp; omega
    have hd : decide (xs = ys) = false := by simp; rintro rfl; exact hlen rfl
    rw [hd]
    clear hlen
    go_enter Tryz.func72, Tryz.ntmps72
    go_wp2
    go_ret
    exact ⟨rfl, 0, rfl⟩

/-- What was lent is as it was. -/
theorem kept_at (g cap c : Nat) (q : Option Addr) (xs : List Int) (w : World) (hx : ∀ j, j < (xs ++ [77, 77, 77]).length → w.cell? ⟨g, j, none⟩ = some (I64 ((xs ++ [77, 77, 77])[j]?.getD 0))) (hy : IntsAt w q xs) (hl : xs.length + 3 ≤ maxLen) (hc : xs.length + 3 ≤ cap) :
    Calls Tryz.prog 40 #[.slice (some ⟨g, 0, none⟩) (xs.length + 3) cap, .slice q xs.length c] w fun e w' => e = .returned (.bool true) ∧ ∃ n, w' = w.drewN n := by
  have hlm : xs.length ≤ maxLen := by omega
  unfold maxLen at hl
  have z0 : w.cell? ⟨g, xs.length, none⟩ = some (I64 77) := by rw [hx _ (by simp)]; simp
  have z1 : w.cell? ⟨g, xs.length + 1, none⟩ = some (I64 77) := by rw [hx _ (by simp)]; simp
  have z2 : w.cell? ⟨g, xs.length + 2, none⟩ = some (I64 77) := by rw [hx _ (by simp)]; simp
  have hxs : IntsAt w (some ⟨g, 0, none⟩) xs := by
    refine IntsAt.take (ys := [77, 77, 77]) (.inr ⟨g, 0, rfl, fun j hj => ?_⟩)
    simpa using hx j hj
  clear hx
  have n0 : (xs.length : Int) ≤ (cap : Int) := by omega
  have n1 : (xs.length : Int) + 2 ≤ 9223372036854775807 := by omega
  have n2 : (0 : Int) ≤ (xs.length : Int) := by omega
  go_enter Tryz.func40, Tryz.ntmps40
  go_wp2_with fail
  refine (sameInts_at (some ⟨g, 0, none⟩) q cap c xs xs _ hxs hy hlm).mono ?_
  rintro e w1 ⟨rfl, n, rfl⟩
  rw [show decide (xs = xs) = true by simp]
  go_wp2
  go_ret
  exact ⟨rfl, n, rfl⟩

/-- A list of one's own is written over. -/
theorem over_at (g cap n : Nat) (cur : Array Value) (w : World) (hg : w.heap[g]? = some (.cells cur 3 (0, 0))) (hs : n ≤ cur.size) (hl : n ≤ maxLen) :
    Calls Tryz.prog 41 #[.slice (some ⟨g, 0, none⟩) n cap] w fun e w' => e = .returned (.tuple #[]) ∧ Chg (fun k => k = g) w w' ∧ ∃ cur', w'.heap[g]? = some (.cells cur' 3 (0, 0)) := by
  unfold maxLen at hl
  have hle : (n : Int) ≤ 9223372036854775807 := by omega
  have HG : Hid (w.heap[g]? = some (.cells cur 3 (0, 0))) := hg
  clear hg
  go_enter Tryz.func41, Tryz.ntmps41
  go_wp2
  go_loopw [2] (fun i wr => ∃ k : Nat, k ≤ n ∧ i = .int .i64 k ∧ Chg (fun k => k = g) w wr ∧ ∃ cur' : Array Value, Hid (wr.heap[g]? = some (.cells cur' 3 (0, 0))) ∧ n ≤ cur'.size)
    (fun i _ => n - (intOf i).toNat)
  case atStart => exact ⟨0, by omega, rfl, Chg.refl _ _, cur, HG, hs⟩
  case round =>
    obtain ⟨k, hk, rfl, hc, cur', hcur, hsz⟩ := hrel
    by_cases hlt : k < n
    · have hlt' : (k : Int) < (n : Int) := by omega
      have hk1 : (k : Int) + 1 ≤ 9223372036854775807 := by omega
      obtain ⟨v, hv⟩ : ∃ v, wr.cell? ⟨g, k, none⟩ = some v := ⟨cur'[k]'(by omega), by rw [cell_of_heap hcur.out]; simp⟩
      have hf : wr.frozen? ⟨g, k, none⟩ = false := frozen_of_heap hcur.out k
      go_wp2
      go_roundw
      case rel =>
        refine ⟨k + 1, by omega, by go_num, hc.setCell (p := ⟨g, k, none⟩) (.inl rfl) _, cur'.setIfInBounds k (.int .i64 (-77)), ?_, ?_⟩
        · exact heap_setCell_same wr g k _ _ _ hcur.out
        · simpa using hsz
      case measure => simp [intOf]; omega
    · go_wp2
      go_end0
      exact ⟨rfl, hc, cur', hcur.out⟩

/-- These may be the weights of voters. -/
def okW (ws : List Int) : Bool := decide (1 ≤ ws.length) && decide (ws.length ≤ 12) && ws.all (fun x => decide (1 ≤ x) && decide (x ≤ 100))

theorem okW_long {ws : List Int} (h : 12 < ws.length) : okW ws = false := by simp [okW]; omega
theorem okW_short {ws : List Int} (h : ws.length < 1) : okW ws = false := by simp [okW]; omega
theorem okW_at {ws : List Int} {x : Int} (h : x ∈ ws) (hx : x < 1 ∨ 100 < x) : okW ws = false := by
  have : ws.all (fun x => decide (1 ≤ x) && decide (x ≤ 100)) = false := by
    rw [List.all_eq_false]; exact ⟨x, h, by simp; omega⟩
  simp [okW, this]
theorem okW_all {ws : List Int} (h1 : 1 ≤ ws.length) (h2 : ws.length ≤ 12) (h : ∀ x ∈ ws, 1 ≤ x ∧ x ≤ 100) : okW ws = true := by
  have : ws.all (fun x => decide (1 ≤ x) && decide (x ≤ 100)) = true := by
    rw [List.all_eq_true]; intro x hx; have := h x hx; simp; omega
  simp [okW, this, h1, h2]
end Go.Proofs.YtgebcnnenhgkcaaGreat
