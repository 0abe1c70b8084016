/- A region that draws, within a round: walked as outside of one; the laws of what is held of the world serve there too. -/
import Derived.Test.YtgebcnnenhgkcaaMem
import Derived.RangeFuncNested
import Derived.RangeFuncBound
import Derived.RangeFuncCalls
import Derived.OrdersHeld
import Derived.Deep.RegionHeld3
import Derived.Shelf.RegionOpen
import Derived.OwnWalkIn
import Derived.TacticsInMore
namespace Go.Proofs.Ytgebcnnenhgkcaa
open Go.RowKit Go.Shelf

theorem op_round {n : Nat} {P : Program} {ops : Array Oper} {Q : Exit → Act → World → Prop} (l : Nat) (hd : ∀ (i : Nat) (o : Oper), ops[i]? = some o → ∀ c, o.op ≠ .defer c) (i : Nat) (K : Act → World → Prop) (a : Act) (w : World) (h : wpOpIn Fence.wide n P ops Q i K a w) : wpOpIn (Fence.wide.inRound l) n P ops Q i K a w := by
  unfold wpOpIn at h ⊢
  cases hi : ops[i]? with
  | none => simpa only [hi] using h
  | some o =>
    simp only [hi] at h ⊢
    split
    · rename_i hw
      simp only [hw, if_true] at h
      unfold Oper.wpIn at h ⊢
      refine ⟨h.1, ?_⟩
      have h2 := h.2
      rw [show (Fence.wide.inRound l).round = some l from rfl, Oper.semAt_some l _ o (hd i o hi)]
      rw [show Fence.wide.round = none from rfl, Oper.semAt_none] at h2
      exact h2
    · rename_i hw
      simp only [hw, if_false, Bool.false_eq_true] at h
      exact h

theorem any_round {n : Nat} {P : Program} {md : Region.Mode} {ops : Array Oper} {Q : Exit → Act → World → Prop} (l : Nat) (hd : ∀ (i : Nat) (o : Oper), ops[i]? = some o → ∀ c, o.op ≠ .defer c) : ∀ (fuel : Nat) (listed : Array Bool) (a : Act) (w : World), wpAnyIn Fence.wide n P md ops Q fuel listed a w → wpAnyIn (Fence.wide.inRound l) n P md ops Q fuel listed a w
  | 0, _, _, _, h => h
  | fuel + 1, _, a, w, h => ⟨h.1, fun i hi => op_round l hd i _ a w (wpOpIn_mono (fun a w => any_round l hd fuel _ a w) (h.2 i hi))⟩

def noDefer (o : Oper) : Bool := match o.op with
  | .defer _ => false
  | _ => true
theorem noDefer_spec {ops : Array Oper} (h : ops.all noDefer = true) (i : Nat) (o : Oper) (hi : ops[i]? = some o) (c : Call) : o.op ≠ .defer c := by
  intro he
  rw [Array.all_eq_true] at h
  obtain ⟨hlt, rfl⟩ := Array.getElem?_eq_some_iff.1 hi
  have := h i hlt
  rw [noDefer, he] at this
  cases this

theorem region_round {n : Nat} {P : Program} {id : Nat} {ops : Array Oper} {Q : Exit → Act → World → Prop} {a : Act} {w : World} (l : Nat) (hd : ops.all noDefer = true) (hm : P.follows .mixedOrders = true)
    (h : wpAnyIn Fence.wide n P .any ops Q ops.size (Array.replicate ops.size false) a w.drew) : (Code.region id ops true).wpIn (Fence.wide.inRound l) n P Q a w :=
  wpIn_region_any hm (any_round l (noDefer_spec hd) _ _ _ _ h)

theorem rowsIn_wide {n : Nat} {P : Program} {row : String} {args : Array Value} {w : World} {R : Value → World → Prop} (h : Rows P row args w R) : RowsIn Fence.wide n P row args w R :=
  fun c cs _ => let ⟨v, w', r, s⟩ := h c cs; ⟨v, w', r, stepsIn_wide.2 s⟩

theorem upon_in {n : Nat} {P : Program} {o : Oper} {a : Act} {next : Act → World → Prop} {Q : Exit → Act → World → Prop} {r : Result Next} (h : o.upon P a next Q r) : o.uponIn Fence.wide n P a next Q r := by
  match r, h with
  | .ok (.value v) w', h => exact h
  | .ok .skip w', h => exact h
  | .ok (.defer d) w', h => exact h
  | .ok (.enter f args) w', h => exact ⟨fun hh => by simp [Fence.wide] at hh, callsIn_wide.2 h⟩
  | .ok (.row row args) w', h => exact ⟨fun hh => by simp [Fence.wide] at hh, rowsIn_wide h⟩
  | .halt (.panic v) w', h => exact h

theorem any_in {n : Nat} {P : Program} {md : Region.Mode} {ops : Array Oper} {Q : Exit → Act → World → Prop} (hQ : ¬ LetsOut Q) : ∀ (fuel : Nat) (listed : Array Bool) (a : Act) (w : World), wpAny P md ops Q fuel listed a w → wpAnyIn Fence.wide n P md ops Q fuel listed a w
  | 0, _, _, _, h => h
  | fuel + 1, _, a, w, h => ⟨h.1, fun i hi => by
    have h2 := h.2 i hi
    refine wpOpIn_mono (K := wpAny P md ops Q fuel _) (fun a w => any_in hQ fuel _ a w) ?_
    unfold wpOp at h2
    unfold wpOpIn
    cases hi : ops[i]? with
    | none => simpa only [hi] using h2
    | some o =>
      simp only [hi] at h2 ⊢
      split
      · rename_i hw
        simp only [hw, if_true] at h2
        rcases h2 with h2 | h2
        · exact ⟨fun f _ => trivial, by
            rw [show Fence.wide.round = none from rfl, Oper.semAt_none]
            exact upon_in h2⟩
        · exact absurd h2.2 hQ
      · rename_i hw
        simp only [hw, if_false, Bool.false_eq_true] at h2
        exact ⟨fun f _ => trivial, h2⟩⟩

/-- What is asked of a region that ends as it should. -/
def Ends (R : Act → World → Prop) : Exit → Act → World → Prop
  | .normal, a, w => R a w
  | _, _, _ => False
theorem Ends.normal {R : Act → World → Prop} {a : Act} {w : World} (h : R a w) : Ends R .normal a w := h
theorem Ends.out {R : Act → World → Prop} : ¬ LetsOut (Ends R) := fun h => by
  first
  | exact h
  | (obtain ⟨_, _, h⟩ := h; exact h)

/-- A region that draws, in a round: by what is held of the world. -/
theorem region_held_round {n : Nat} {P : Program} {id : Nat} {ops : Array Oper} {Q : Exit → Act → World → Prop} {a : Act} {w : World} (l : Nat) (S : World → Prop) (R : Act → World → Prop) (hd : ops.all noDefer = true) (hm : P.follows .mixedOrders = true) (hR : ∀ a w, R a w → Q .normal a w)
    (h : wpAnyH P .any ops (Ends R) S ops.size (Array.replicate ops.size false) a w.drew) : (Code.region id ops true).wpIn (Fence.wide.inRound l) n P Q a w :=
  wpIn_mono (region_round l hd hm (any_in Ends.out _ _ _ _ (wpAny_of_held _ _ _ _ h))) (fun e a w hq => by
    cases e <;> first | exact hR a w hq | exact (hq : False).elim)

/-- The operation of a number, so that it comes out written. -/
def nthO : List Oper → Nat → Option Oper
  | [], _ => none
  | o :: _, 0 => some o
  | _ :: r, n + 1 => nthO r n
theorem nthO_eq : ∀ (l : List Oper) (i : Nat), nthO l i = l[i]?
  | [], _ => by simp [nthO]
  | o :: r, 0 => by simp [nthO]
  | o :: r, n + 1 => by simp [nthO, nthO_eq r n]
theorem nthO_at {ops : Array Oper} {i : Nat} {o : Oper} (h : nthO ops.toList i = some o) : ops[i]? = some o := by
  rw [nthO_eq] at h; simpa using h

section
variable {P : Program} {ops : Array Oper} {Q : Exit → Act → World → Prop} {md : Region.Mode} {S : World → Prop}
theorem takeH {i : Nat} {oi : Oper} {v : Value} {fuel : Nat} {listed : Array Bool} {a : Act} {w : World} (hi : nthO ops.toList i = some oi)
    (hs : Region.noSelect ops = true) (hf : Region.free md ops listed i = true) (hr : (Region.ready md ops listed).contains i = true)
    (hQ : ∀ c a w, Q (.panic c) (a.put oi.dst v) w → Q (.panic c) a w) (hy : YieldsIf P ops S oi v a) (hS : S w)
    (h : wpAnyH P md ops Q S fuel (listed.setIfInBounds i true) (a.put oi.dst v) w) : wpAnyH P md ops Q S (fuel + 1) listed a w :=
  wpAnyH_take (nthO_at hi) hs hf hr hQ hy hS h
/-- One operation alone may come up, and is carried out. -/
theorem doneH {i : Nat} {o : Oper} {fuel : Nat} {listed : Array Bool} {a : Act} {w : World} (hi : nthO ops.toList i = some o) (hr : Region.ready md ops listed = [i])
    (hw : Region.wanted o (yielded ops a.tmps) = true)
    (h : ∀ K : Act → World → Prop, (∀ a' w', S w' → (S w' → wpAnyH P md ops Q S fuel (listed.setIfInBounds i true) a' w') → K a' w') → o.wp P a w K Q) : wpAnyH P md ops Q S (fuel + 1) listed a w := by
  refine wpAnyH_all hr (by simp) (fun j hj => ?_)
  simp only [List.mem_singleton] at hj
  subst hj
  unfold wpOp
  simp only [nthO_at hi, hw, if_true]
  exact .inl (h _ (fun a' w' h1 h2 => ⟨h1, h2 h1⟩))
end
end Go.Proofs.Ytgebcnnenhgkcaa
