/- A script of steps in memory. -/
import Derived.Test.YtgebcnnenhgkcaaGreatB02
import Derived.Test.YtgebcnnenhgkcaaGreatB18
namespace Go.Proofs.YtgebcnnenhgkcaaGreat
open Go.RowKit

/-- A step as data. -/
structure OpD where
  kd : Int
  k : Int
  a : Int
  b : Int
  c : Int
  wv : Value

/-- A script in memory. -/
def OpsAt (w : World) (p : Option Addr) (ops : List OpD) : Prop :=
  ops = [] ∨ ∃ g o, p = some ⟨g, o, none⟩ ∧ ∀ j x, ops[j]? = some x → w.cell? ⟨g, o + j * 6, none⟩ = some (I64 x.kd) ∧ w.cell? ⟨g, o + j * 6 + 1, none⟩ = some (I64 x.k) ∧ w.cell? ⟨g, o + j * 6 + 2, none⟩ = some (I64 x.a) ∧ w.cell? ⟨g, o + j * 6 + 3, none⟩ = some (I64 x.b) ∧ w.cell? ⟨g, o + j * 6 + 4, none⟩ = some (I64 x.c) ∧ w.cell? ⟨g, o + j * 6 + 5, none⟩ = some x.wv

theorem OpsAt.chg {S : Nat → Prop} {w w' : World} {p : Option Addr} {ops : List OpD} (h : OpsAt w p ops) (hc : Chg S w w') (hd : ∀ k, k < w.heap.size → ¬ S k) : OpsAt w' p ops := by
  rcases h with h | ⟨g, o, h1, h2⟩
  · exact .inl h
  · refine .inr ⟨g, o, h1, fun j x hj => ?_⟩
    obtain ⟨c0, c1, c2, c3, c4, c5⟩ := h2 j x hj
    have hg : g < w.heap.size := World.block_lt_of_cell? w _ c0
    exact ⟨hc.cell c0 (hd _ hg), hc.cell c1 (hd _ hg), hc.cell c2 (hd _ hg), hc.cell c3 (hd _ hg), hc.cell c4 (hd _ hg), hc.cell c5 (hd _ hg)⟩

end Go.Proofs.YtgebcnnenhgkcaaGreat
/- A script over both Courts, and all that can be asked of them. -/
namespace Go.Proofs.YtgebcnnenhgkcaaGreat
open Go.RowKit

end Go.Proofs.YtgebcnnenhgkcaaGreat
