/- Memory: which blocks a call may turn; how a Court of the program and the document's own lie in memory. -/
import Derived.Test.YtgebcnnenhgkcaaPure
import Derived.Test.YtgebcnnenhgkcaaLock2
import Derived.ProofKit
import Derived.RangeFuncWrites
import Derived.WalkSmall
namespace Go.Proofs.Ytgebcnnenhgkcaa
open Go.RowKit

/-- Whatever lay outside S lies as it lay. -/
structure Chg (S : Nat → Prop) (w w' : World) : Prop where
  os : w'.os = w.os
  tape : w'.tape = w.tape
  output : w'.output = w.output
  size : w.heap.size ≤ w'.heap.size
  block : ∀ k, k < w.heap.size → ¬ S k → w'.heap[k]? = w.heap[k]?

theorem Chg.refl (S : Nat → Prop) (w : World) : Chg S w w := ⟨rfl, rfl, rfl, Nat.le_refl _, fun _ _ _ => rfl⟩
theorem Chg.trans {S : Nat → Prop} {a b c : World} (h : Chg S a b) (k : Chg S b c) : Chg S a c :=
  ⟨k.os.trans h.os, k.tape.trans h.tape, k.output.trans h.output, Nat.le_trans h.size k.size, fun i hi hs => (k.block i (Nat.lt_of_lt_of_le hi h.size) hs).trans (h.block i hi hs)⟩
theorem Chg.mono {S T : Nat → Prop} {a b : World} (h : Chg S a b) (hs : ∀ k, k < a.heap.size → S k → T k) : Chg T a b :=
  ⟨h.os, h.tape, h.output, h.size, fun i hi ht => h.block i hi (fun x => ht (hs i hi x))⟩
/-- Two steps, the second of which may also turn what the first has laid. -/
theorem Chg.then {S T : Nat → Prop} {a b c : World} (h : Chg S a b) (k : Chg T b c) (hs : ∀ i, T i → S i ∨ a.heap.size ≤ i) : Chg S a c :=
  ⟨k.os.trans h.os, k.tape.trans h.tape, k.output.trans h.output, Nat.le_trans h.size k.size, fun i hi hn =>
    (k.block i (Nat.lt_of_lt_of_le hi h.size) (fun ht => (hs i ht).elim hn (fun hle => by omega))).trans (h.block i hi hn)⟩
theorem Chg.drew {S : Nat → Prop} {a w : World} (h : Chg S a w) : Chg S a w.drew := ⟨h.os, h.tape, h.output, h.size, h.block⟩
theorem Chg.alloc {S : Nat → Prop} {a w : World} (h : Chg S a w) (o : Obj) : Chg S a (w.alloc o) :=
  h.trans ⟨rfl, rfl, rfl, by simp, fun k hk _ => Below.heap_alloc _ _ _ hk⟩
theorem Chg.setCell {S : Nat → Prop} {a w : World} (h : Chg S a w) {p : Addr} (hp : S p.block ∨ a.heap.size ≤ p.block) (u : Value) : Chg S a (w.setCell p u) :=
  h.then (T := fun k => k = p.block) ⟨rfl, rfl, rfl, by simp [World.setCell], fun k _ hn => Below.heap_setCell _ _ _ _ hn⟩ (fun i e => by subst e; exact hp)
theorem Chg.grown {S : Nat → Prop} {a w w' : World} {row : Option Nat} (h : Chg S a w) (hg : w.grownBy w' row) (hr : ∀ k, row = some k → S k ∨ a.heap.size ≤ k) : Chg S a w' :=
  h.then (T := fun k => row = some k) ⟨hg.os, hg.tape, hg.output, hg.size, fun k hk hn => hg.block k hk (fun e => hn e.symm)⟩ (fun i e => hr i e)
theorem Chg.of_below {w w' : World} (S : Nat → Prop) (h : Below w.heap.size w w') : Chg S w w' := ⟨h.os, h.tape, h.output, h.size, fun k hk _ => h.block k hk⟩
theorem Chg.below {S : Nat → Prop} {w w' : World} {B : Nat} (h : Chg S w w') (hB : B ≤ w.heap.size) (hs : ∀ k, k < B → ¬ S k) : Below B w w' :=
  ⟨h.os, h.tape, h.output, h.size, fun k hk => h.block k (by omega) (hs k hk)⟩
theorem Chg.keeps {S : Nat → Prop} {w w' : World} (h : Chg S w w') (hs : ∀ k o, S k → w.heap[k]? = some o → o.isCells = true) : KeepsOthers w w' :=
  ⟨h.size, fun k o hk ho => by
    refine (h.block k (Array.getElem?_eq_some_iff.1 hk).1 (fun hS => ?_)).trans hk
    have := hs k o hS hk
    rw [ho] at this; cases this⟩
theorem Chg.cell {S : Nat → Prop} {w w' : World} (h : Chg S w w') {a : Addr} {v : Value} (hc : w.cell? a = some v) (hs : ¬ S a.block) : w'.cell? a = some v :=
  (World.cell?_of_block (h.block a.block (World.block_lt_of_cell? w a hc) hs)).trans hc
theorem Chg.row {S : Nat → Prop} {w w' : World} (h : Chg S w w') {base : Nat} {e : TypeId} {size : Nat} {v : Value} {n : Nat} {xs : List Value} (hr : w.ownsRow base e size v n xs) (hs : ∀ k, v.ownBlock = some k → ¬ S k) : w'.ownsRow base e size v n xs := by
  refine ⟨hr.1, ?_⟩
  rcases hr.2 with hn | ⟨g, cap, cur, rfl, hb, hgg, rest⟩
  · exact .inl hn
  · exact .inr ⟨g, cap, cur, rfl, hb, (h.block g (Array.getElem?_eq_some_iff.1 hgg).1 (hs g rfl)).trans hgg, rest⟩

/-- A Court of the program: the block of its struct, its three rows, in the blocks S; m: the mutex' word. -/
structure CourtAt (w : World) (b : Nat) (S : Nat → Prop) (m : Int) (ws ps : List Int) (vs : List Vt) (wv pv vv : Value) : Prop where
  heap : w.heap[b]? = some (.cells #[.int .i32 m, .int .u32 0, wv, pv, vv] 46 (0, 0))
  wrow : w.ownsRow 0 3 1 wv ws.length (ws.map I64)
  prow : w.ownsRow 0 3 1 pv ps.length (ps.map I64)
  vrow : w.ownsRow 0 70 3 vv vs.length (vtRow vs)
  inb : S b
  inw : ∀ k, wv.ownBlock = some k → S k
  inp : ∀ k, pv.ownBlock = some k → S k
  inv : ∀ k, vv.ownBlock = some k → S k
  lt : ∀ k, S k → k < w.heap.size
  cells : ∀ k o, S k → w.heap[k]? = some o → o.isCells = true
  apart : ∀ k, wv.ownBlock = some k → pv.ownBlock = some k → False

/-- The document's Court. -/
structure RefAt (w : World) (b : Nat) (S : Nat → Prop) (ws ps : List Int) (vs : List Vt) (wv pv vv : Value) : Prop where
  heap : w.heap[b]? = some (.cells #[wv, pv, vv] 98 (0, 0))
  wrow : w.ownsRow 0 3 1 wv ws.length (ws.map I64)
  prow : w.ownsRow 0 3 1 pv ps.length (ps.map I64)
  vrow : w.ownsRow 0 70 3 vv vs.length (vtRow vs)
  inb : S b
  inw : ∀ k, wv.ownBlock = some k → S k
  inp : ∀ k, pv.ownBlock = some k → S k
  inv : ∀ k, vv.ownBlock = some k → S k
  lt : ∀ k, S k → k < w.heap.size
  cells : ∀ k o, S k → w.heap[k]? = some o → o.isCells = true
  apart : ∀ k, wv.ownBlock = some k → pv.ownBlock = some k → False

section
variable {w w' : World} {b : Nat} {S : Nat → Prop} {m : Int} {ws ps : List Int} {vs : List Vt} {wv pv vv : Value}

theorem cell_of_heap {w : World} {b : Nat} {cs : Array Value} {t : TypeId} {r : Nat × Nat} (h : w.heap[b]? = some (.cells cs t r)) (o : Nat) : w.cell? ⟨b, o, none⟩ = cs[o]? := by
  simp [World.cell?, h]
theorem frozen_of_heap {w : World} {b : Nat} {cs : Array Value} {t : TypeId} (h : w.heap[b]? = some (.cells cs t (0, 0))) (o : Nat) : w.frozen? ⟨b, o, none⟩ = false := by
  simp [World.frozen?, h]

theorem CourtAt.c0 (h : CourtAt w b S m ws ps vs wv pv vv) : w.cell? ⟨b, 0, none⟩ = some (.int .i32 m) := by rw [cell_of_heap h.heap]; rfl
theorem CourtAt.c2 (h : CourtAt w b S m ws ps vs wv pv vv) : w.cell? ⟨b, 2, none⟩ = some wv := by rw [cell_of_heap h.heap]; rfl
theorem CourtAt.c3 (h : CourtAt w b S m ws ps vs wv pv vv) : w.cell? ⟨b, 3, none⟩ = some pv := by rw [cell_of_heap h.heap]; rfl
theorem CourtAt.c4 (h : CourtAt w b S m ws ps vs wv pv vv) : w.cell? ⟨b, 4, none⟩ = some vv := by rw [cell_of_heap h.heap]; rfl
theorem CourtAt.fz (h : CourtAt w b S m ws ps vs wv pv vv) (o : Nat) : w.frozen? ⟨b, o, none⟩ = false := frozen_of_heap h.heap o

/-- It lies on where what it owns is not turned. -/
theorem CourtAt.kept {T : Nat → Prop} (h : CourtAt w b S m ws ps vs wv pv vv) (hc : Chg T w w') (hd : ∀ k, S k → ¬ T k) : CourtAt w' b S m ws ps vs wv pv vv :=
  ⟨(hc.block b (h.lt b h.inb) (hd b h.inb)).trans h.heap, hc.row h.wrow (fun k hk => hd k (h.inw k hk)), hc.row h.prow (fun k hk => hd k (h.inp k hk)), hc.row h.vrow (fun k hk => hd k (h.inv k hk)),
    h.inb, h.inw, h.inp, h.inv, fun k hk => Nat.lt_of_lt_of_le (h.lt k hk) hc.size, fun k o hk ho => h.cells k o hk ((hc.block k (h.lt k hk) (hd k hk)).symm.trans ho), h.apart⟩
theorem RefAt.kept {T : Nat → Prop} (h : RefAt w b S ws ps vs wv pv vv) (hc : Chg T w w') (hd : ∀ k, S k → ¬ T k) : RefAt w' b S ws ps vs wv pv vv :=
  ⟨(hc.block b (h.lt b h.inb) (hd b h.inb)).trans h.heap, hc.row h.wrow (fun k hk => hd k (h.inw k hk)), hc.row h.prow (fun k hk => hd k (h.inp k hk)), hc.row h.vrow (fun k hk => hd k (h.inv k hk)),
    h.inb, h.inw, h.inp, h.inv, fun k hk => Nat.lt_of_lt_of_le (h.lt k hk) hc.size, fun k o hk ho => h.cells k o hk ((hc.block k (h.lt k hk) (hd k hk)).symm.trans ho), h.apart⟩

/-- A row of numbers: its address and its cells. -/
theorem row_open {xs : List Int} {v : Value} (h : w.ownsRow 0 3 1 v xs.length (xs.map I64)) (hp : 0 < xs.length) :
    ∃ g cap, v = .slice (some ⟨g, 0, none⟩) xs.length cap ∧ xs.length ≤ cap ∧ cap ≤ maxLen ∧ (∀ j, j < xs.length → w.cell? ⟨g, j, none⟩ = some (I64 (xs[j]?.getD 0))) ∧ ∀ j, w.frozen? ⟨g, j, none⟩ = false := by
  have h' := h
  rcases h.2 with ⟨_, hn⟩ | ⟨g, cap, cur, rfl, _, hg, hle, hm, hs, ht⟩
  · omega
  · refine ⟨g, cap, rfl, hle, hm, fun j hj => ?_, fun j => h'.frozenAt j⟩
    rw [h'.cellAt j (by omega)]
    simp [hj]
end
end Go.Proofs.Ytgebcnnenhgkcaa
