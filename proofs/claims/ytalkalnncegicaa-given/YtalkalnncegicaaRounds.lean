/- A region that draws, within a round: walked as outside of one. -/
import Derived.Test.YtalkalnncegicaaAlone
namespace Go.Proofs.Ytalkalnncegicaa
open Go.RowKit Go.Shelf

theorem op_round {n : Nat} {P : Program} {ops : Array Oper} {Q : Exit → Act → World → Prop} (l : Nat) (hd : ∀ (i : Nat) (o : Oper), ops[i]? = some o → ∀ c, o.op ≠ .defer c) (i : Nat) (K : Act → World → Prop) (a : Act) (w : World) (h : wpOpIn Fence.wide n P ops Q i K a w) : wpOpIn (Fence.wide.inRound l) n P ops Q i K a w := by
  unfold wpOpIn at h ⊢
  cases hi : ops[i]? with
  | none => simpa only [hi] using h
  | some o =>
    simp only [hi] at h ⊢
    split
    · rename_i hw
      simp only [hw, if_true] at h
      unfold Oper.wpIn at h ⊢
      refine ⟨h.1, ?_⟩
      have h2 := h.2
      rw [show (Fence.wide.inRound l).round = some l from rfl, Oper.semAt_some l _ o (hd i o hi)]
      rw [show Fence.wide.round = none from rfl, Oper.semAt_none] at h2
      exact h2
    · rename_i hw
      simp only [hw, if_false, Bool.false_eq_true] at h
      exact h

theorem any_round {n : Nat} {P : Program} {md : Region.Mode} {ops : Array Oper} {Q : Exit → Act → World → Prop} (l : Nat) (hd : ∀ (i : Nat) (o : Oper), ops[i]? = some o → ∀ c, o.op ≠ .defer c) : ∀ (fuel : Nat) (listed : Array Bool) (a : Act) (w : World), wpAnyIn Fence.wide n P md ops Q fuel listed a w → wpAnyIn (Fence.wide.inRound l) n P md ops Q fuel listed a w
  | 0, _, _, _, h => h
  | fuel + 1, _, a, w, h => ⟨h.1, fun i hi => op_round l hd i _ a w (wpOpIn_mono (fun a w => any_round l hd fuel _ a w) (h.2 i hi))⟩

def noDefer (o : Oper) : Bool := match o.op with
  | .defer _ => false
  | _ => true
theorem noDefer_spec {ops : Array Oper} (h : ops.all noDefer = true) (i : Nat) (o : Oper) (hi : ops[i]? = some o) (c : Call) : o.op ≠ .defer c := by
  intro he
  rw [Array.all_eq_true] at h
  obtain ⟨hlt, rfl⟩ := Array.getElem?_eq_some_iff.1 hi
  have := h i hlt
  rw [noDefer, he] at this
  cases this

theorem region_round {n : Nat} {P : Program} {id : Nat} {ops : Array Oper} {Q : Exit → Act → World → Prop} {a : Act} {w : World} (l : Nat) (hd : ops.all noDefer = true) (hm : P.follows .mixedOrders = true)
    (h : wpAnyIn Fence.wide n P .any ops Q ops.size (Array.replicate ops.size false) a w.drew) : (Code.region id ops true).wpIn (Fence.wide.inRound l) n P Q a w :=
  wpIn_region_any hm (any_round l (noDefer_spec hd) _ _ _ _ h)
end Go.Proofs.Ytalkalnncegicaa
