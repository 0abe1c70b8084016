/- What the program's tree does: Count, Has, and the way up over an iterator. -/
import Derived.Test.YtgebcnnenhgkcaaMem
import Derived.RangeFuncNested
import Derived.RangeFuncBound
import Derived.RangeFuncCalls
import Derived.RangeFuncLeaves
import Derived.Shelf.Abstract
import Derived.Shelf.RegionOpen
import Derived.WalkKit
import Derived.OwnWalkIn
import Derived.TacticsInMore
import Derived.LoopNIn
import Derived.LoopIn
namespace Go.Proofs.Ytgebcnnenhgkcaa
open Go.RowKit Go.Shelf
attribute [local go_sem] Oper.semAt_some

theorem count_at (b o : Nat) (p : Option Addr) (n c : Nat) (w : World) (hc : w.cell? ⟨b, o, none⟩ = some (.slice p n c)) :
    Calls Try.prog 58 #[.pointer (some ⟨b, o, none⟩)] w fun e w' => e = .returned (.int .i64 n) ∧ w' = w := by
  go_enter Try.func58, Try.ntmps58
  go_wp2
  go_ret
  exact ⟨rfl, rfl⟩

def hasB (n : Nat) (k : Int) : Bool := decide (0 ≤ k) && decide (k < n)

theorem has_at (b o : Nat) (p : Option Addr) (n c : Nat) (k : Int) (w : World) (hc : w.cell? ⟨b, o, none⟩ = some (.slice p n c)) :
    Calls Try.prog 61 #[.pointer (some ⟨b, o, none⟩), .int .i64 k] w fun e w' => e = .returned (.bool (hasB n k)) ∧ w' = w := by
  by_cases h0 : 0 ≤ k
  all_goals
    go_enter Try.func61, Try.ntmps61
    go_wp2
    go_ret
    exact ⟨by simp [hasB]; omega, rfl⟩

theorem hasB_true {n : Nat} {k : Int} (h0 : 0 ≤ k) (h1 : k < n) : hasB n k = true := by simp [hasB, h0, h1]

set_option maxRecDepth 100000 in
set_option maxHeartbeats 1000000 in
/-- The way up, told to a yield: each one ahead, in its order; or some of them, where a round has said no more. -/
theorem ahead1_in (n l Bb Bt n₀ b o g cap : Nat) (ps : List Int) (hT : Tree ps) (k : Int) (hk0 : 0 ≤ k) (hk1 : k.toNat < ps.length) (J Jx : List Int → World → Prop)
    (hY : ∀ pre x W, J pre W → pre.length < (up ps k).length → YieldAt Fence.wide (n - 1) Try.prog l #[.int .i64 x] W fun e W' =>
      (e = .returned (.bool true) ∧ J (pre ++ [x]) W' ∧ Below n₀ W W') ∨ (e = .returned (.bool false) ∧ Jx (pre ++ [x]) W'))
    (W : World) (hBb : W.cell? ⟨Bb, 0, none⟩ = some (.int .i64 k)) (hBt : W.cell? ⟨Bt, 0, none⟩ = some (.pointer (some ⟨b, o, none⟩))) (hlt : Bt < n₀) (hlb : b < n₀) (hlg : g < n₀)
    (hpv : W.cell? ⟨b, o, none⟩ = some (.slice (some ⟨g, 0, none⟩) ps.length cap))
    (hcs : ∀ j, j < ps.length → W.cell? ⟨g, j, none⟩ = some (.int .i64 (ps[j]?.getD 0))) (h0 : J [] W) :
    CallsIn Fence.wide n Try.prog 110 #[.func (.yield l) #[] #[], .pointer (some ⟨Bb, 0, none⟩), .pointer (some ⟨Bt, 0, none⟩)] W fun e W' => (∃ v, e = .returned v) ∧
      ((∃ ys, ys = up ps k ∧ J ys W') ∨ (∃ pre, pre <+: up ps k ∧ Jx pre W')) := by
  have hlen : ps.length ≤ 40 := hT.2.1
  have hfn : Fence.wide.fn 61 := trivial
  refine callsIn_of_wp Try.func110 rfl trivial ?_ rfl
  simp only [Try.ntmps110, List.size_toArray, List.length_cons, List.length_nil, Nat.reduceAdd, Nat.reduceSub, Array.replicate_succ, Array.replicate_zero, List.push_toArray, List.append_toArray, List.nil_append, List.cons_append]
  gi_wp2
  gi_loopw [4] (fun p wr => ∃ (pre : List Int) (x : Int), p = .int .i64 x ∧ 0 ≤ x ∧ x.toNat < ps.length ∧ up ps k = pre ++ up ps x ∧ Below n₀ W wr ∧ J pre wr)
    (fun p _ => (intOf p).toNat)
  case atStart =>
    exact ⟨[], k, rfl, hk0, hk1, rfl, Below.refl _ _, h0⟩
  case round =>
    obtain ⟨pre, x, rfl, hx0, hx1, hup, hB, hJs⟩ := hrel
    have hBt' : wr.cell? ⟨Bt, 0, none⟩ = some (.pointer (some ⟨b, o, none⟩)) := (hB.cell (p := ⟨Bt, 0, none⟩) hlt).trans hBt
    have hpv' : wr.cell? ⟨b, o, none⟩ = some (.slice (some ⟨g, 0, none⟩) ps.length cap) := (hB.cell (p := ⟨b, o, none⟩) hlb).trans hpv
    by_cases hx : x = 0
    · subst hx
      have HU : Hid (up ps k = pre ++ up ps 0) := hup
      clear hup
      gi_wp2
      go_end0
      exact ⟨⟨_, rfl⟩, .inl ⟨pre, by simp [HU.out, up_zero], hJs⟩⟩
    · have hxp : 0 < x := by omega
      obtain ⟨p, hpe⟩ : ∃ p, ps[x.toNat]?.getD 0 = p := ⟨_, rfl⟩
      have hcx : wr.cell? ⟨g, x.toNat, none⟩ = some (.int .i64 p) := by rw [← hpe]; exact (hB.cell (p := ⟨g, x.toNat, none⟩) hlg).trans (hcs _ hx1)
      have hpr := hT.2.2.2 x.toNat (by omega) hx1
      rw [hpe] at hpr
      have HU : Hid (up ps k = pre ++ up ps x) := hup
      clear hup
      have HS : Hid (up ps x = p :: up ps p) := by rw [← hpe]; exact up_step hT hxp hx1
      clear hpe
      obtain ⟨fn, tmps, assign, body, hy, hR⟩ := hY pre p wr hJs (by rw [HU.out, HS.out]; simp)
      have hxb : (x != 0) = true := by simpa using hx
      gi_wp2_with (refine ⟨fun h => (by cases h), ?_⟩; gi_at_call 61; refine (callsIn_wide.2 (has_at b o (some ⟨g, 0, none⟩) ps.length cap x _ hpv')).mono ?_; rintro e w' ⟨rfl, rfl⟩; rw [hasB_true hx0 (by omega)])
      refine ⟨fun h => (by cases h), hR.mono ?_⟩
      rintro e W3 (⟨rfl, hJ3, hk3⟩ | ⟨rfl, hJx3⟩)
      · gi_wp2
        go_roundw
        case rel => exact ⟨pre ++ [p], p, rfl, by omega, by omega, by rw [HU.out, HS.out]; simp, hB.trans hk3, hJ3⟩
        case measure => simp [intOf]; omega
      · gi_wp2
        refine bodyPost_ret (results_none rfl _ _ _) rfl ?_
        exact ⟨⟨_, rfl⟩, .inr ⟨pre ++ [p], ⟨up ps p, by rw [HU.out, HS.out]; simp⟩, hJx3⟩⟩

/-- The way up's maker: the tree's address and the block are boxed. -/
theorem ahead_makes (b o : Nat) (k : Int) (w : World) :
    Calls Try.prog 93 #[.pointer (some ⟨b, o, none⟩), .int .i64 k] w fun e w' =>
      e = .returned (.func (.func 110) #[] #[.pointer (some ⟨w.heap.size + 1, 0, none⟩), .pointer (some ⟨w.heap.size, 0, none⟩)]) ∧
      w' = (w.alloc (.cells #[.pointer (some ⟨b, o, none⟩)] 116)).alloc (.cells #[.int .i64 k] 3) := by
  have hmf : ∀ (fn : Fn) (first cap : Array Value) (w : World), (Instr.makeFunc fn first cap).run Try.prog w = .ok (.func fn first cap) w := fun _ _ _ _ => rfl
  go_enter Try.func93, Try.ntmps93
  go_wp2
  go_ret
  exact ⟨rfl, rfl⟩

/-- A tree in memory: the slice at ⟨b, o⟩ holds the parents, in the block g. -/
structure TreeAt (w : World) (b o g cap : Nat) (ps : List Int) : Prop where
  pv : w.cell? ⟨b, o, none⟩ = some (.slice (some ⟨g, 0, none⟩) ps.length cap)
  cs : ∀ j, j < ps.length → w.cell? ⟨g, j, none⟩ = some (.int .i64 (ps[j]?.getD 0))

theorem TreeAt.lt_b {w : World} {b o g cap : Nat} {ps : List Int} (h : TreeAt w b o g cap ps) : b < w.heap.size := World.block_lt_of_cell? w ⟨b, o, none⟩ h.pv
theorem TreeAt.lt_g {w : World} {b o g cap : Nat} {ps : List Int} (h : TreeAt w b o g cap ps) (hp : 0 < ps.length) : g < w.heap.size := World.block_lt_of_cell? w ⟨g, 0, none⟩ (h.cs 0 hp)
theorem TreeAt.below {w w' : World} {b o g cap B : Nat} {ps : List Int} (h : TreeAt w b o g cap ps) (hB : Below B w w') (hb : b < B) (hg : g < B) : TreeAt w' b o g cap ps :=
  ⟨(hB.cell (p := ⟨b, o, none⟩) hb).trans h.pv, fun j hj => (hB.cell (p := ⟨g, j, none⟩) hg).trans (h.cs j hj)⟩

theorem ahead_stops (n Bb Bt n₀ b o g cap : Nat) (ps : List Int) (hT : Tree ps) (k : Int) (hk0 : 0 ≤ k) (hk1 : k.toNat < ps.length) (w : World) (hBb : Bb < n₀) (hlt : Bt < n₀) (hlb : b < n₀) (hlg : g < n₀) (hn : n₀ ≤ w.heap.size)
    (hb : w.cell? ⟨Bb, 0, none⟩ = some (.int .i64 k)) (ht : w.cell? ⟨Bt, 0, none⟩ = some (.pointer (some ⟨b, o, none⟩))) (hA : TreeAt w b o g cap ps) :
    SeqStopsK Fence.wide n Try.prog 110 #[.pointer (some ⟨Bb, 0, none⟩), .pointer (some ⟨Bt, 0, none⟩)] (fun x : Int => #[Value.int .i64 x]) (Below n₀) (fun ys => ys = up ps k) (fun pre => pre <+: up ps k) (up ps k).length w :=
  fun l J Jx W hW _ _ hY h0 =>
    have hA' := hA.below (hW.mono hn) hlb hlg
    ahead1_in n l Bb Bt n₀ b o g cap ps hT k hk0 hk1 J Jx hY W (((hW.mono hn).cell (p := ⟨Bb, 0, none⟩) hBb).trans hb) (((hW.mono hn).cell (p := ⟨Bt, 0, none⟩) hlt).trans ht) hlt hlb hlg hA'.pv hA'.cs h0
end Go.Proofs.Ytgebcnnenhgkcaa
