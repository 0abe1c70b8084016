/- The way up, told to a yield that is handed a block, and may turn blocks of its own (T). -/
import Derived.RangeFuncNested
import Derived.RangeFuncBound
import Derived.RangeFuncCalls
import Derived.OrdersHeld
import Derived.Deep.RegionHeld3
import Derived.Shelf.RegionOpen
import Derived.OwnWalkIn
import Derived.TacticsInMore
import Derived.Test.YtgebcnnenhgkcaaGreatB03
import Derived.Test.YtgebcnnenhgkcaaGreatB02
import Derived.Test.YtgebcnnenhgkcaaGreatB06
namespace Go.Proofs.YtgebcnnenhgkcaaGreat
open Go.RowKit Go.Shelf
attribute [local go_sem] Oper.semAt_some

set_option maxRecDepth 100000 in
set_option maxHeartbeats 1000000 in
/-- The way up, told to a yield: each one ahead, in its order; or some of them, where a round has said no more. -/
theorem ahead1c_in (T : Nat → Prop) (n l Bb Bt b o g cap : Nat) (ps : List Int) (hT : Tree ps) (k : Int) (hk0 : 0 ≤ k) (hk1 : k.toNat < ps.length) (J Jx : List Int → World → Prop)
    (hY : ∀ pre x W, 0 ≤ x → x.toNat < ps.length → J pre W → pre.length < (up ps k).length → YieldAt Fence.wide (n - 1) Tryz.prog l #[.int .i64 x] W fun e W' =>
      (e = .returned (.bool true) ∧ J (pre ++ [x]) W' ∧ Chg T W W') ∨ (e = .returned (.bool false) ∧ Jx (pre ++ [x]) W'))
    (W : World) (hBb : W.cell? ⟨Bb, 0, none⟩ = some (.int .i64 k)) (hBt : W.cell? ⟨Bt, 0, none⟩ = some (.pointer (some ⟨b, o, none⟩))) (hlt : ¬ T Bt) (hlb : ¬ T b) (hlg : ¬ T g)
    (hpv : W.cell? ⟨b, o, none⟩ = some (.slice (some ⟨g, 0, none⟩) ps.length cap))
    (hcs : ∀ j, j < ps.length → W.cell? ⟨g, j, none⟩ = some (.int .i64 (ps[j]?.getD 0))) (h0 : J [] W) :
    CallsIn Fence.wide n Tryz.prog 144 #[.func (.yield l) #[] #[], .pointer (some ⟨Bb, 0, none⟩), .pointer (some ⟨Bt, 0, none⟩)] W fun e W' => (∃ v, e = .returned v) ∧
      ((∃ ys, ys = up ps k ∧ J ys W') ∨ (∃ pre, pre <+: up ps k ∧ Jx pre W')) := by
  have hlen : ps.length ≤ 40 := hT.2.1
  have hfn : Fence.wide.fn 86 := trivial
  refine callsIn_of_wp Tryz.func144 rfl trivial ?_ rfl
  simp only [Tryz.ntmps144, List.size_toArray, List.length_cons, List.length_nil, Nat.reduceAdd, Nat.reduceSub, Array.replicate_succ, Array.replicate_zero, List.push_toArray, List.append_toArray, List.nil_append, List.cons_append]
  gi_wp2
  gi_loopw [4] (fun p wr => ∃ (pre : List Int) (x : Int), p = .int .i64 x ∧ 0 ≤ x ∧ x.toNat < ps.length ∧ up ps k = pre ++ up ps x ∧ Chg T W wr ∧ J pre wr)
    (fun p _ => (intOf p).toNat)
  case atStart =>
    exact ⟨[], k, rfl, hk0, hk1, rfl, Chg.refl _ _, h0⟩
  case round =>
    obtain ⟨pre, x, rfl, hx0, hx1, hup, hB, hJs⟩ := hrel
    have hBt' : wr.cell? ⟨Bt, 0, none⟩ = some (.pointer (some ⟨b, o, none⟩)) := hB.cell hBt hlt
    have hpv' : wr.cell? ⟨b, o, none⟩ = some (.slice (some ⟨g, 0, none⟩) ps.length cap) := hB.cell hpv hlb
    by_cases hx : x = 0
    · subst hx
      have HU : Hid (up ps k = pre ++ up ps 0) := hup
      clear hup
      gi_wp2
      go_end0
      exact ⟨⟨_, rfl⟩, .inl ⟨pre, by simp [HU.out, up_zero], hJs⟩⟩
    · have hxp : 0 < x := by omega
      obtain ⟨p, hpe⟩ : ∃ p, ps[x.toNat]?.getD 0 = p := ⟨_, rfl⟩
      have hcx : wr.cell? ⟨g, x.toNat, none⟩ = some (.int .i64 p) := by rw [← hpe]; exact hB.cell (hcs _ hx1) hlg
      have hpr := hT.2.2.2 x.toNat (by omega) hx1
      rw [hpe] at hpr
      have HU : Hid (up ps k = pre ++ up ps x) := hup
      clear hup
      have HS : Hid (up ps x = p :: up ps p) := by rw [← hpe]; exact up_step hT hxp hx1
      clear hpe
      obtain ⟨fn, tmps, assign, body, hy, hR⟩ := hY pre p wr (by omega) (by omega) hJs (by rw [HU.out, HS.out]; simp)
      have hxb : (x != 0) = true := by simpa using hx
      gi_wp2_with (refine ⟨fun h => (by cases h), ?_⟩; gi_at_call 86; refine (callsIn_wide.2 (has_at b o (some ⟨g, 0, none⟩) ps.length cap x _ hpv')).mono ?_; rintro e w' ⟨rfl, rfl⟩; rw [hasB_true hx0 (by omega)])
      refine ⟨fun h => (by cases h), hR.mono ?_⟩
      rintro e W3 (⟨rfl, hJ3, hk3⟩ | ⟨rfl, hJx3⟩)
      · gi_wp2
        go_roundw
        case rel => exact ⟨pre ++ [p], p, rfl, by omega, by omega, by rw [HU.out, HS.out]; simp, hB.trans hk3, hJ3⟩
        case measure => simp [intOf]; omega
      · gi_wp2
        refine bodyPost_ret (results_none rfl _ _ _) rfl ?_
        exact ⟨⟨_, rfl⟩, .inr ⟨pre ++ [p], ⟨up ps p, by rw [HU.out, HS.out]; simp⟩, hJx3⟩⟩


/-- A block's number. -/
abbrev BlkN (n : Nat) := { x : Int // 0 ≤ x ∧ x.toNat < n }

/-- The same, where a round may know that it is handed a block. -/
theorem ahead_stopsC (T : Nat → Prop) (n Bb Bt b o g cap : Nat) (ps : List Int) (hT : Tree ps) (k : Int) (hk0 : 0 ≤ k) (hk1 : k.toNat < ps.length) (w : World) (hlt : ¬ T Bt) (hlb : ¬ T b) (hlg : ¬ T g)
    (hb : w.cell? ⟨Bb, 0, none⟩ = some (.int .i64 k)) (ht : w.cell? ⟨Bt, 0, none⟩ = some (.pointer (some ⟨b, o, none⟩))) (hA : TreeAt w b o g cap ps) :
    SeqStopsK Fence.wide n Tryz.prog 144 #[.pointer (some ⟨Bb, 0, none⟩), .pointer (some ⟨Bt, 0, none⟩)] (fun x : BlkN ps.length => #[Value.int .i64 x.1]) (Chg T) (fun ys => ys.map Subtype.val = up ps k) (fun pre => pre.map Subtype.val <+: up ps k) (up ps k).length w :=
  fun l J Jx W hW _ _ hY h0 => by
    have hA' := hA.below hW hA.lt_b (hA.lt_g hT.1)
    refine (ahead1c_in T n l Bb Bt b o g cap ps hT k hk0 hk1 (fun pre W => ∃ m : List (BlkN ps.length), m.map Subtype.val = pre ∧ J m W) (fun pre W => ∃ m : List (BlkN ps.length), m.map Subtype.val = pre ∧ Jx m W) ?_ W ((hW.cell (p := ⟨Bb, 0, none⟩) (World.block_lt_of_cell? w _ hb)).trans hb) ((hW.cell (p := ⟨Bt, 0, none⟩) (World.block_lt_of_cell? w _ ht)).trans ht) hlt hlb hlg hA'.pv hA'.cs ⟨[], rfl, h0⟩).mono ?_
    · rintro pre x W1 hx0 hx1 ⟨m, rfl, hJ⟩ hlen
      refine (hY m ⟨x, hx0, hx1⟩ W1 hJ (by simpa using hlen)).mono ?_
      rintro e w' (⟨he, hj, hk⟩ | ⟨he, hj⟩)
      · exact .inl ⟨he, ⟨_, by simp, hj⟩, hk⟩
      · exact .inr ⟨he, ⟨_, by simp, hj⟩⟩
    · rintro e W' ⟨hv, ⟨ys, hys, m, hm, hj⟩ | ⟨pre, hp, m, hm, hj⟩⟩
      · exact ⟨hv, .inl ⟨m, hm.trans hys, hj⟩⟩
      · exact ⟨hv, .inr ⟨m, by show _ <+: _; rw [hm]; exact hp, hj⟩⟩

theorem chgK_b {T : Nat → Prop} {w : World} (hT : ∀ k, w.heap.size ≤ k → T k) (W : World) (l : Nat) (o o' : Obj) (hl : w.heap.size ≤ l) (_ : W.heap[l]? = some o) (_ : o.isCells = false) (_ : o.isWalk = false) : Chg T W (W.putObj l o') :=
  (Chg.refl T W).grown (grownBy_putObj' W l o') (fun k e => by cases e; exact .inl (hT _ hl))
end Go.Proofs.YtgebcnnenhgkcaaGreat
/- A region that draws, within a round: walked as outside of one; the laws of what is held of the world serve there too. -/
namespace Go.Proofs.YtgebcnnenhgkcaaGreat
open Go.RowKit Go.Shelf

theorem op_round {n : Nat} {P : Program} {ops : Array Oper} {Q : Exit → Act → World → Prop} (l : Nat) (hd : ∀ (i : Nat) (o : Oper), ops[i]? = some o → ∀ c, o.op ≠ .defer c) (i : Nat) (K : Act → World → Prop) (a : Act) (w : World) (h : wpOpIn Fence.wide n P ops Q i K a w) : wpOpIn (Fence.wide.inRound l) n P ops Q i K a w := by
  unfold wpOpIn at h ⊢
  cases hi : ops[i]? with
  | none => simpa only [hi] using h
  | some o =>
    simp only [hi] at h ⊢
    split
    · rename_i hw
      simp only [hw, if_true] at h
      unfold Oper.wpIn at h ⊢
      refine ⟨h.1, ?_⟩
      have h2 := h.2
      rw [show (Fence.wide.inRound l).round = some l from rfl, Oper.semAt_some l _ o (hd i o hi)]
      rw [show Fence.wide.round = none from rfl, Oper.semAt_none] at h2
      exact h2
    · rename_i hw
      simp only [hw, if_false, Bool.false_eq_true] at h
      exact h

theorem any_round {n : Nat} {P : Program} {md : Region.Mode} {ops : Array Oper} {Q : Exit → Act → World → Prop} (l : Nat) (hd : ∀ (i : Nat) (o : Oper), ops[i]? = some o → ∀ c, o.op ≠ .defer c) : ∀ (fuel : Nat) (listed : Array Bool) (a : Act) (w : World), wpAnyIn Fence.wide n P md ops Q fuel listed a w → wpAnyIn (Fence.wide.inRound l) n P md ops Q fuel listed a w
  | 0, _, _, _, h => h
  | fuel + 1, _, a, w, h => ⟨h.1, fun i hi => op_round l hd i _ a w (wpOpIn_mono (fun a w => any_round l hd fuel _ a w) (h.2 i hi))⟩

def noDefer (o : Oper) : Bool := match o.op with
  | .defer _ => false
  | _ => true
theorem noDefer_spec {ops : Array Oper} (h : ops.all noDefer = true) (i : Nat) (o : Oper) (hi : ops[i]? = some o) (c : Call) : o.op ≠ .defer c := by
  intro he
  rw [Array.all_eq_true] at h
  obtain ⟨hlt, rfl⟩ := Array.getElem?_eq_some_iff.1 hi
  have := h i hlt
  rw [noDefer, he] at this
  cases this

theorem region_round {n : Nat} {P : Program} {id : Nat} {ops : Array Oper} {Q : Exit → Act → World → Prop} {a : Act} {w : World} (l : Nat) (hd : ops.all noDefer = true) (hm : P.follows .mixedOrders = true)
    (h : wpAnyIn Fence.wide n P .any ops Q ops.size (Array.replicate ops.size false) a w.drew) : (Code.region id ops true).wpIn (Fence.wide.inRound l) n P Q a w :=
  wpIn_region_any hm (any_round l (noDefer_spec hd) _ _ _ _ h)

theorem rowsIn_wide {n : Nat} {P : Program} {row : String} {args : Array Value} {w : World} {R : Value → World → Prop} (h : Rows P row args w R) : RowsIn Fence.wide n P row args w R :=
  fun c cs _ => let ⟨v, w', r, s⟩ := h c cs; ⟨v, w', r, stepsIn_wide.2 s⟩

theorem upon_in {n : Nat} {P : Program} {o : Oper} {a : Act} {next : Act → World → Prop} {Q : Exit → Act → World → Prop} {r : Result Next} (h : o.upon P a next Q r) : o.uponIn Fence.wide n P a next Q r := by
  match r, h with
  | .ok (.value v) w', h => exact h
  | .ok .skip w', h => exact h
  | .ok (.defer d) w', h => exact h
  | .ok (.enter f args) w', h => exact ⟨fun hh => by simp [Fence.wide] at hh, callsIn_wide.2 h⟩
  | .ok (.row row args) w', h => exact ⟨fun hh => by simp [Fence.wide] at hh, rowsIn_wide h⟩
  | .halt (.panic v) w', h => exact h

theorem any_in {n : Nat} {P : Program} {md : Region.Mode} {ops : Array Oper} {Q : Exit → Act → World → Prop} (hQ : ¬ LetsOut Q) : ∀ (fuel : Nat) (listed : Array Bool) (a : Act) (w : World), wpAny P md ops Q fuel listed a w → wpAnyIn Fence.wide n P md ops Q fuel listed a w
  | 0, _, _, _, h => h
  | fuel + 1, _, a, w, h => ⟨h.1, fun i hi => by
    have h2 := h.2 i hi
    refine wpOpIn_mono (K := wpAny P md ops Q fuel _) (fun a w => any_in hQ fuel _ a w) ?_
    unfold wpOp at h2
    unfold wpOpIn
    cases hi : ops[i]? with
    | none => simpa only [hi] using h2
    | some o =>
      simp only [hi] at h2 ⊢
      split
      · rename_i hw
        simp only [hw, if_true] at h2
        rcases h2 with h2 | h2
        · exact ⟨fun f _ => trivial, by
            rw [show Fence.wide.round = none from rfl, Oper.semAt_none]
            exact upon_in h2⟩
        · exact absurd h2.2 hQ
      · rename_i hw
        simp only [hw, if_false, Bool.false_eq_true] at h2
        exact ⟨fun f _ => trivial, h2⟩⟩

/-- What is asked of a region that ends as it should. -/
def Ends (R : Act → World → Prop) : Exit → Act → World → Prop
  | .normal, a, w => R a w
  | _, _, _ => False
theorem Ends.normal {R : Act → World → Prop} {a : Act} {w : World} (h : R a w) : Ends R .normal a w := h
theorem Ends.out {R : Act → World → Prop} : ¬ LetsOut (Ends R) := fun h => by
  first
  | exact h
  | (obtain ⟨_, _, h⟩ := h; exact h)

/-- A region that draws, in a round: by what is held of the world. -/
theorem region_held_round {n : Nat} {P : Program} {id : Nat} {ops : Array Oper} {Q : Exit → Act → World → Prop} {a : Act} {w : World} (l : Nat) (S : World → Prop) (R : Act → World → Prop) (hd : ops.all noDefer = true) (hm : P.follows .mixedOrders = true) (hR : ∀ a w, R a w → Q .normal a w)
    (h : wpAnyH P .any ops (Ends R) S ops.size (Array.replicate ops.size false) a w.drew) : (Code.region id ops true).wpIn (Fence.wide.inRound l) n P Q a w :=
  wpIn_mono (region_round l hd hm (any_in Ends.out _ _ _ _ (wpAny_of_held _ _ _ _ h))) (fun e a w hq => by
    cases e <;> first | exact hR a w hq | exact (hq : False).elim)

/-- The operation of a number, so that it comes out written. -/
def nthO : List Oper → Nat → Option Oper
  | [], _ => none
  | o :: _, 0 => some o
  | _ :: r, n + 1 => nthO r n
theorem nthO_eq : ∀ (l : List Oper) (i : Nat), nthO l i = l[i]?
  | [], _ => by simp [nthO]
  | o :: r, 0 => by simp [nthO]
  | o :: r, n + 1 => by simp [nthO, nthO_eq r n]
theorem nthO_at {ops : Array Oper} {i : Nat} {o : Oper} (h : nthO ops.toList i = some o) : ops[i]? = some o := by
  rw [nthO_eq] at h; simpa using h

section
variable {P : Program} {ops : Array Oper} {Q : Exit → Act → World → Prop} {md : Region.Mode} {S : World → Prop}
theorem takeH {i : Nat} {oi : Oper} {v : Value} {fuel : Nat} {listed : Array Bool} {a : Act} {w : World} (hi : nthO ops.toList i = some oi)
    (hs : Region.noSelect ops = true) (hf : Region.free md ops listed i = true) (hr : (Region.ready md ops listed).contains i = true)
    (hQ : ∀ c a w, Q (.panic c) (a.put oi.dst v) w → Q (.panic c) a w) (hy : YieldsIf P ops S oi v a) (hS : S w)
    (h : wpAnyH P md ops Q S fuel (listed.setIfInBounds i true) (a.put oi.dst v) w) : wpAnyH P md ops Q S (fuel + 1) listed a w :=
  wpAnyH_take (nthO_at hi) hs hf hr hQ hy hS h
/-- One operation alone may come up, and is carried out. -/
theorem doneH {i : Nat} {o : Oper} {fuel : Nat} {listed : Array Bool} {a : Act} {w : World} (hi : nthO ops.toList i = some o) (hr : Region.ready md ops listed = [i])
    (hw : Region.wanted o (yielded ops a.tmps) = true)
    (h : ∀ K : Act → World → Prop, (∀ a' w', S w' → (S w' → wpAnyH P md ops Q S fuel (listed.setIfInBounds i true) a' w') → K a' w') → o.wp P a w K Q) : wpAnyH P md ops Q S (fuel + 1) listed a w := by
  refine wpAnyH_all hr (by simp) (fun j hj => ?_)
  simp only [List.mem_singleton] at hj
  subst hj
  unfold wpOp
  simp only [nthO_at hi, hw, if_true]
  exact .inl (h _ (fun a' w' h1 h2 => ⟨h1, h2 h1⟩))
end
end Go.Proofs.YtgebcnnenhgkcaaGreat
/- stepsTo: by how few links a block is just. -/
namespace Go.Proofs.YtgebcnnenhgkcaaGreat
open Go.RowKit Go.Shelf
attribute [local go_sem] Oper.semAt_some

theorem stepsTo_root (b gj nj cj : Nat) (w : World) :
    Calls Tryz.prog 114 #[.pointer (some ⟨b, 0, none⟩), .int .i64 0, .slice (some ⟨gj, 0, none⟩) nj cj] w fun e w' => e = .returned (.int .i64 0) ∧ Below w.heap.size w w' := by
  refine (callsIn_wide (n := 5)).1 ?_
  refine callsIn_of_wp_marks Tryz.func114 rfl trivial ?_ rfl
  simp only [Tryz.ntmps114, List.size_toArray, List.length_cons, List.length_nil, Nat.reduceAdd, Nat.reduceSub, Array.replicate_succ, Array.replicate_zero, List.push_toArray, List.append_toArray, List.nil_append, List.cons_append]
  gi_wp2
  refine ⟨_, results_tmp rfl _ _ _, rfl, ?_⟩
  exact (((Below.refl _ w).alloc (Nat.le_refl _) _).alloc (by simp) _).alloc (by simp; omega) _

set_option maxRecDepth 100000 in
set_option maxHeartbeats 4000000 in
theorem stepsTo_in (b : Nat) (S : Nat → Prop) (m : Int) (ws ps st : List Int) (vs : List Vt) (wv pv vv : Value) (gj cj : Nat) (t : Int) (w : World) (h : CourtAt w b S m ws ps vs wv pv vv) (hT : Tree ps) (hW : OkWs ws) (hl : vs.length ≤ 300) (hO : OkV ws.length ps vs)
    (hst : ∀ j, j < ps.length → w.cell? ⟨gj, j, none⟩ = some (I64 (st[j]?.getD 0))) (hsb : ∀ j : Nat, 0 ≤ st[j]?.getD 0 ∧ st[j]?.getD 0 ≤ 40) (ht0 : 0 < t) (ht1 : t.toNat < ps.length) :
    Calls Tryz.prog 114 #[.pointer (some ⟨b, 0, none⟩), .int .i64 t, .slice (some ⟨gj, 0, none⟩) ps.length cj] w fun e w' => e = .returned (.int .i64 (stepOf (linkB ws vs) ps st t)) ∧ Below w.heap.size w w' := by
  have hfn : Fence.wide.fn 121 := trivial
  have hfn2 : Fence.wide.fn 120 := trivial
  have hmix : Tryz.prog.follows .mixedOrders = true := by kernel_rfl
  obtain ⟨g0, cap0, rfl, _, _, hcs0, _⟩ := row_open h.prow hT.1
  have hA : TreeAt w b 3 g0 cap0 ps := ⟨h.c3, hcs0⟩
  have hlb := hA.lt_b
  have hlg := hA.lt_g hT.1
  have htb : (t == 0) = false := by simp; omega
  refine (callsIn_wide (n := 5)).1 ?_
  refine callsIn_of_wp_marks Tryz.func114 rfl trivial ?_ rfl
  simp only [Tryz.ntmps114, List.size_toArray, List.length_cons, List.length_nil, Nat.reduceAdd, Nat.reduceSub, Array.replicate_succ, Array.replicate_zero, List.push_toArray, List.append_toArray, List.nil_append, List.cons_append]
  gi_wp2_with fail
  refine wpIn_mono (Q := NoPanic (fun e a' w' => e = .normal ∧ a' = { tmps := #[.pointer (some ⟨b, 0, none⟩), .int .i64 t, .slice (some ⟨gj, 0, none⟩) ps.length cj, .pointer (some ⟨w.heap.size, 0, none⟩), .pointer (some ⟨w.heap.size + 1, 0, none⟩), .pointer (some ⟨w.heap.size + 1 + 1, 0, none⟩), .int .i64 0, .pointer (some ⟨w.heap.size + 1 + 1 + 1, 0, none⟩), undef, .int .i64 t, .bool false, .pointer (some ⟨b, 0, none⟩), .pointer (some ⟨b, 0, none⟩), .pointer (some ⟨b, 3, none⟩), .int .i64 t, .func (.func 144) #[] #[.pointer (some ⟨w.heap.size + 1 + 1 + 1 + 1 + 1, 0, none⟩), .pointer (some ⟨w.heap.size + 1 + 1 + 1 + 1, 0, none⟩)], undef, undef, undef, undef, undef, undef, undef, undef, undef, undef, undef, undef, undef, undef, undef, undef, undef, undef, undef, undef], defers := [] } ∧ w' = ((((((w.alloc (.cells #[.pointer (some ⟨b, 0, none⟩)] 26)).alloc (.cells #[.int .i64 t] 3)).alloc (.cells #[.slice (some ⟨gj, 0, none⟩) ps.length cj] 22)).alloc (.cells #[.int .i64 40] 3)).alloc (.cells #[.pointer (some ⟨b, 3, none⟩)] 147)).alloc (.cells #[.int .i64 t] 3)).drew)) ?_ ?_
  · gi_region_with_o ((gi_at_call 121; refine (callsIn_wide.2 (ahead_makes b 3 t _)).mono ?_; rintro e w' ⟨rfl, rfl⟩))
    all_goals (refine NoPanic.normal ?_; exact ⟨rfl, rfl, rfl⟩)
  rintro e a' w' hq
  obtain ⟨rfl, rfl, hw'⟩ := NoPanic.imp _ _ _ hq
  clear hq
  have hs0 : w'.heap.size = w.heap.size + 1 + 1 + 1 + 1 + 1 + 1 := by rw [hw']; simp
  have c0 : w'.cell? ⟨w.heap.size, 0, none⟩ = some (.pointer (some ⟨b, 0, none⟩)) := by rw [hw']; simp [go_sem]
  have c1 : w'.cell? ⟨w.heap.size + 1, 0, none⟩ = some (.int .i64 t) := by rw [hw']; simp [go_sem]
  have c2 : w'.cell? ⟨w.heap.size + 1 + 1, 0, none⟩ = some (.slice (some ⟨gj, 0, none⟩) ps.length cj) := by rw [hw']; simp [go_sem]
  have c3 : w'.cell? ⟨w.heap.size + 1 + 1 + 1, 0, none⟩ = some (.int .i64 40) ∧ w'.frozen? ⟨w.heap.size + 1 + 1 + 1, 0, none⟩ = false := by rw [hw']; simp [go_sem]
  have c4 : w'.cell? ⟨w.heap.size + 1 + 1 + 1 + 1, 0, none⟩ = some (.pointer (some ⟨b, 3, none⟩)) := by rw [hw']; simp [go_sem]
  have c5 : w'.cell? ⟨w.heap.size + 1 + 1 + 1 + 1 + 1, 0, none⟩ = some (.int .i64 t) := by rw [hw']; simp [go_sem]
  have hB0 : Below w.heap.size w w' := by rw [hw']; exact ((((((Below.refl _ w).alloc (Nat.le_refl _) _).alloc (by simp) _).alloc (by simp; omega) _).alloc (by simp; omega) _).alloc (by simp; omega) _).alloc (by simp; omega) _ |>.drew
  clear hw'
  gi_wp2_with fail
  refine wpIn_rangeFunc_ownF rfl (by omega) (gf := 144) (lb := #[.pointer (some ⟨w.heap.size + 1 + 1 + 1 + 1 + 1, 0, none⟩), .pointer (some ⟨w.heap.size + 1 + 1 + 1 + 1, 0, none⟩)]) rfl trivial (enters_of Tryz.func144 (by kernel_rfl) rfl)
    (ahead_stopsC (fun k => k = w.heap.size + 1 + 1 + 1 ∨ w'.heap.size ≤ k) 4 (w.heap.size + 1 + 1 + 1 + 1 + 1) (w.heap.size + 1 + 1 + 1 + 1) b 3 g0 cap0 ps hT t (by omega) ht1 w' (by omega) (by omega) (by omega) c5 c4 (hA.below hB0 hlb hlg)) (fun h k => h.trans k) (chgK_b (fun k hk => .inr hk)) (Below.refl _ _) (fun _ => rfl)
    (fun pre W => (W.cell? ⟨w.heap.size, 0, none⟩ = some (.pointer (some ⟨b, 0, none⟩)) ∧ W.cell? ⟨w.heap.size + 1, 0, none⟩ = some (.int .i64 t) ∧ W.cell? ⟨w.heap.size + 1 + 1, 0, none⟩ = some (.slice (some ⟨gj, 0, none⟩) ps.length cj) ∧ W.cell? ⟨w.heap.size + 1 + 1 + 1, 0, none⟩ = some (.int .i64 ((pre.map Subtype.val).foldl (stepR (linkB ws vs) st t) 40)) ∧ W.frozen? ⟨w.heap.size + 1 + 1 + 1, 0, none⟩ = false ∧ w'.heap.size ≤ W.heap.size) ∧ Below w.heap.size w W)
    (fun c pre W => False ∧ Below w.heap.size w W)
    (OwnFrom.and (Own.from (fun s A B row hs hg hr => ⟨cell_kept hs.1 hg hr, cell_kept hs.2.1 hg hr, cell_kept hs.2.2.1 hg hr, cell_kept hs.2.2.2.1 hg hr, (frozen_kept hs.2.2.2.1 hg hr).trans hs.2.2.2.2.1, Nat.le_trans hs.2.2.2.2.2 hg.size⟩) _) (ownFrom_below (Nat.le_refl _) (by omega)))
    (fun c => OwnFrom.and (Own.from (fun s A B row hs hg hr => hs) _) (ownFrom_below (Nat.le_refl _) (by omega)))
    ⟨⟨c0, c1, c2, c3.1, c3.2, Nat.le_refl _⟩, hB0⟩
    (fun x => { tmps := #[.pointer (some ⟨b, 0, none⟩), .int .i64 t, .slice (some ⟨gj, 0, none⟩) ps.length cj, .pointer (some ⟨w.heap.size, 0, none⟩), .pointer (some ⟨w.heap.size + 1, 0, none⟩), .pointer (some ⟨w.heap.size + 1 + 1, 0, none⟩), .int .i64 0, .pointer (some ⟨w.heap.size + 1 + 1 + 1, 0, none⟩), .int .i64 x.1, .int .i64 t, .bool false, .pointer (some ⟨b, 0, none⟩), .pointer (some ⟨b, 0, none⟩), .pointer (some ⟨b, 3, none⟩), .int .i64 t, .func (.func 144) #[] #[.pointer (some ⟨w.heap.size + 1 + 1 + 1 + 1 + 1, 0, none⟩), .pointer (some ⟨w.heap.size + 1 + 1 + 1 + 1, 0, none⟩)], .int .i64 x.1, undef, undef, undef, undef, undef, undef, undef, undef, undef, undef, undef, undef, undef, undef, undef, undef, undef, undef, undef], defers := [] }) ?assign ?body ?done ?stop
  case assign =>
    intro l x W K hK
    gi_wp2
    exact hK
  case body =>
    rintro l pre ⟨x, hx0, hx1⟩ W ⟨⟨d0, d1, d2, d3, d4, d5⟩, hB⟩ _
    have hC := h.kept (Chg.of_below (fun _ => False) hB) (fun _ _ hf => hf)
    have hgjl : gj < w.heap.size := World.block_lt_of_cell? w _ (hst 0 hT.1)
    obtain ⟨sx, hsx⟩ : ∃ sx, stAt st x = sx := ⟨_, rfl⟩
    obtain ⟨hb0, hb1⟩ : 0 ≤ sx ∧ sx ≤ 40 := by rw [← hsx]; exact hsb x.toNat
    have hwr : IntKind.i64.wrap (sx + 1) = sx + 1 := Go.IntWalk.i64_in _ (by omega)
    have hr' : W.cell? ⟨gj, x.toNat, none⟩ = some (I64 sx) := by rw [← hsx]; exact (hB.cell (p := ⟨gj, x.toNat, none⟩) hgjl).trans (hst _ hx1)
    obtain ⟨f, hf⟩ : ∃ f, (pre.map Subtype.val).foldl (stepR (linkB ws vs) st t) 40 = f := ⟨_, rfl⟩
    rw [hf] at d3
    have hnext : ∀ y : BlkN ps.length, ((pre ++ [y]).map Subtype.val).foldl (stepR (linkB ws vs) st t) 40 = stepR (linkB ws vs) st t f y.1 := fun y => by
      rw [List.map_append, List.foldl_append, hf]; rfl
    have HNX : Hid _ := hnext
    have HSX : Hid (stAt st x = sx) := hsx
    clear hf hsx hnext
    have hxl : x < (ps.length : Int) := by omega
    have hnn : 1 ≤ 5 - 1 - 1 := by omega
    dsimp only
    have hHeld : (fun w' : World => w'.cell? ⟨w.heap.size + 1 + 1, 0, none⟩ = some (.slice (some ⟨gj, 0, none⟩) ps.length cj) ∧ w'.cell? ⟨gj, x.toNat, none⟩ = some (I64 sx) ∧ w'.cell? ⟨w.heap.size + 1 + 1 + 1, 0, none⟩ = some (.int .i64 f) ∧ w'.cell? ⟨w.heap.size, 0, none⟩ = some (.pointer (some ⟨b, 0, none⟩)) ∧ w'.cell? ⟨w.heap.size + 1, 0, none⟩ = some (.int .i64 t)) W.drew := ⟨d2, hr', d3, d0, d1⟩
    by_cases hc : sx + 1 < f
    · have hd : decide (sx + 1 < f) = true := by simpa using hc
      have hCd : CourtAt W.drew b S m ws ps vs wv (.slice (some ⟨g0, 0, none⟩) ps.length cap0) vv := hC.kept (Chg.drew (Chg.refl (fun _ => False) _)) (fun _ _ hf => hf)
      gi_wp2_with fail
      refine region_held_round l (fun w' : World => w'.cell? ⟨w.heap.size + 1 + 1, 0, none⟩ = some (.slice (some ⟨gj, 0, none⟩) ps.length cj) ∧ w'.cell? ⟨gj, x.toNat, none⟩ = some (I64 sx) ∧ w'.cell? ⟨w.heap.size + 1 + 1 + 1, 0, none⟩ = some (.int .i64 f) ∧ w'.cell? ⟨w.heap.size, 0, none⟩ = some (.pointer (some ⟨b, 0, none⟩)) ∧ w'.cell? ⟨w.heap.size + 1, 0, none⟩ = some (.int .i64 t)) _ (by kernel_rfl) hmix (fun _ _ h => h) ?_
      refine takeH (i := 0) (v := ?vv1) rfl (by kernel_rfl) (by kernel_rfl) (by kernel_rfl) (fun _ _ _ h => h) (Or.inl ⟨by rfl, ?hy1⟩) (by assumption) ?rest1
      case hy1 => (intro w hSw; (try dsimp only at hSw); go_simp; try with_reducible rfl)
      try simp only [Act.put, List.setIfInBounds_toArray, List.set_cons_zero, List.set_cons_succ]
      refine takeH (i := 1) (v := ?vv2) rfl (by kernel_rfl) (by kernel_rfl) (by kernel_rfl) (fun _ _ _ h => h) (Or.inl ⟨by rfl, ?hy2⟩) (by assumption) ?rest2
      case hy2 => (intro w hSw; (try dsimp only at hSw); go_simp; try with_reducible rfl)
      try simp only [Act.put, List.setIfInBounds_toArray, List.set_cons_zero, List.set_cons_succ]
      refine takeH (i := 2) (v := ?vv3) rfl (by kernel_rfl) (by kernel_rfl) (by kernel_rfl) (fun _ _ _ h => h) (Or.inl ⟨by rfl, ?hy3⟩) (by assumption) ?rest3
      case hy3 => (intro w hSw; (try dsimp only at hSw); go_simp; try with_reducible rfl)
      try simp only [Act.put, List.setIfInBounds_toArray, List.set_cons_zero, List.set_cons_succ]
      refine takeH (i := 3) (v := ?vv4) rfl (by kernel_rfl) (by kernel_rfl) (by kernel_rfl) (fun _ _ _ h => h) (Or.inl ⟨by rfl, ?hy4⟩) (by assumption) ?rest4
      case hy4 => (intro w hSw; (try dsimp only at hSw); go_simp; try with_reducible rfl)
      try simp only [Act.put, List.setIfInBounds_toArray, List.set_cons_zero, List.set_cons_succ]
      refine takeH (i := 4) (v := ?vv5) rfl (by kernel_rfl) (by kernel_rfl) (by kernel_rfl) (fun _ _ _ h => h) (Or.inl ⟨by rfl, ?hy5⟩) (by assumption) ?rest5
      case hy5 => (intro w hSw; (try dsimp only at hSw); go_simp; try with_reducible rfl)
      try simp only [Act.put, List.setIfInBounds_toArray, List.set_cons_zero, List.set_cons_succ]
      refine takeH (i := 5) (v := ?vv6) rfl (by kernel_rfl) (by kernel_rfl) (by kernel_rfl) (fun _ _ _ h => h) (Or.inl ⟨by rfl, ?hy6⟩) (by assumption) ?rest6
      case hy6 => (intro w hSw; (try dsimp only at hSw); go_simp; try with_reducible rfl)
      try simp only [Act.put, List.setIfInBounds_toArray, List.set_cons_zero, List.set_cons_succ]
      refine takeH (i := 6) (v := .bool true) rfl (by kernel_rfl) (by kernel_rfl) (by kernel_rfl) (fun _ _ _ h => h) (Or.inl ⟨by rfl, ?hy7⟩) (by assumption) ?rest7
      case hy7 => (intro w hSw; (try dsimp only at hSw); go_simp; try simp [*]; try omega)
      try simp only [Act.put, List.setIfInBounds_toArray, List.set_cons_zero, List.set_cons_succ]
      refine takeH (i := 7) (v := ?vv8) rfl (by kernel_rfl) (by kernel_rfl) (by kernel_rfl) (fun _ _ _ h => h) (Or.inl ⟨by rfl, ?hy8⟩) (by assumption) ?rest8
      case hy8 => (intro w hSw; (try dsimp only at hSw); go_simp; try with_reducible rfl)
      try simp only [Act.put, List.setIfInBounds_toArray, List.set_cons_zero, List.set_cons_succ]
      refine takeH (i := 8) (v := ?vv9) rfl (by kernel_rfl) (by kernel_rfl) (by kernel_rfl) (fun _ _ _ h => h) (Or.inl ⟨by rfl, ?hy9⟩) (by assumption) ?rest9
      case hy9 => (intro w hSw; (try dsimp only at hSw); go_simp; try with_reducible rfl)
      try simp only [Act.put, List.setIfInBounds_toArray, List.set_cons_zero, List.set_cons_succ]
      refine takeH (i := 9) (v := ?vv10) rfl (by kernel_rfl) (by kernel_rfl) (by kernel_rfl) (fun _ _ _ h => h) (Or.inl ⟨by rfl, ?hy10⟩) (by assumption) ?rest10
      case hy10 => (intro w hSw; (try dsimp only at hSw); go_simp; try with_reducible rfl)
      try simp only [Act.put, List.setIfInBounds_toArray, List.set_cons_zero, List.set_cons_succ]
      refine takeH (i := 10) (v := ?vv11) rfl (by kernel_rfl) (by kernel_rfl) (by kernel_rfl) (fun _ _ _ h => h) (Or.inl ⟨by rfl, ?hy11⟩) (by assumption) ?rest11
      case hy11 => (intro w hSw; (try dsimp only at hSw); go_simp; try with_reducible rfl)
      try simp only [Act.put, List.setIfInBounds_toArray, List.set_cons_zero, List.set_cons_succ]
      refine doneH (i := 11) rfl (by kernel_rfl) (by rfl) (fun K hK => ?_)
      have HK : Hid _ := hK
      clear hK
      go_simp
      refine (enough_at b S m ws ps vs _ _ _ x t _ hCd hW hl hO).mono ?_
      rintro e W2 ⟨rfl, hB2⟩
      have hB2 : Below W.heap.size W W2 := (Below.refl W.heap.size W).drew.trans hB2
      have hko : KeepsOthers W W2 := ⟨hB2.size, fun k o hk _ => (hB2.block k (Array.getElem?_eq_some_iff.1 hk).1).trans hk⟩
      have hlt : w.heap.size + 1 + 1 + 1 < W.heap.size := by omega
      have e0 : W2.cell? ⟨w.heap.size, 0, none⟩ = some (.pointer (some ⟨b, 0, none⟩)) := (hB2.cell (p := ⟨w.heap.size, 0, none⟩) (by dsimp only; omega)).trans d0
      have e1 : W2.cell? ⟨w.heap.size + 1, 0, none⟩ = some (.int .i64 t) := (hB2.cell (p := ⟨w.heap.size + 1, 0, none⟩) (by dsimp only; omega)).trans d1
      have e2 : W2.cell? ⟨w.heap.size + 1 + 1, 0, none⟩ = some (.slice (some ⟨gj, 0, none⟩) ps.length cj) := (hB2.cell (p := ⟨w.heap.size + 1 + 1, 0, none⟩) (by dsimp only; omega)).trans d2
      have e3 : W2.cell? ⟨w.heap.size + 1 + 1 + 1, 0, none⟩ = some (.int .i64 f) := (hB2.cell (p := ⟨w.heap.size + 1 + 1 + 1, 0, none⟩) hlt).trans d3
      have e4 : W2.frozen? ⟨w.heap.size + 1 + 1 + 1, 0, none⟩ = false := (hB2.frozen (p := ⟨w.heap.size + 1 + 1 + 1, 0, none⟩) hlt).trans d4
      have e5 : W2.cell? ⟨gj, x.toNat, none⟩ = some (I64 sx) := (hB2.cell (p := ⟨gj, x.toNat, none⟩) (by have := hB.size; dsimp only; omega)).trans hr'
      have hz2 := hB2.size
      have hBw : Below w.heap.size w W2 := hB.trans (hB2.mono hB.size)
      clear hHeld hCd d0 d1 d2 d3 d4 hr'
      refine HK.out _ _ ⟨e2, e5, e3, e0, e1⟩ (fun hHeld => ?_)
      clear HK K
      try simp only [Act.put, List.setIfInBounds_toArray, List.set_cons_zero, List.set_cons_succ]
      refine takeH (i := 12) (v := ?vv12) rfl (by kernel_rfl) (by kernel_rfl) (by kernel_rfl) (fun _ _ _ h => h) (Or.inl ⟨by rfl, ?hy12⟩) (by assumption) ?rest12
      case hy12 => (intro w hSw; (try dsimp only at hSw); go_simp; try with_reducible rfl)
      try simp only [Act.put, List.setIfInBounds_toArray, List.set_cons_zero, List.set_cons_succ]
      refine wpAnyH_done (by kernel_rfl) ?_ _
      cases hlk : linkB ws vs x t
      · have HLK : Hid (linkB ws vs x t = false) := hlk
        clear hlk
        refine Ends.normal ?_
        gi_wp2
        refine ⟨hko, Chg.of_below _ hB2, ⟨e0, e1, e2, ?_, e4, by omega⟩, hBw⟩
        rw [HNX.out]; unfold stepR; rw [HLK.out]; simpa using e3
      · have HLK : Hid (linkB ws vs x t = true) := hlk
        clear hlk
        refine Ends.normal ?_
        gi_wp2
        have hne : ∀ (q : Nat), q ≠ w.heap.size + 1 + 1 + 1 → (W2.setCell ⟨w.heap.size + 1 + 1 + 1, 0, none⟩ (.int .i64 (sx + 1))).cell? ⟨q, 0, none⟩ = W2.cell? ⟨q, 0, none⟩ := fun q hq => World.cell?_setCell_other _ _ _ _ (by intro e; cases e; exact hq rfl)
        refine ⟨hko.trans (KeepsOthers.setCell _ _ _), (Chg.of_below _ hB2).setCell (p := ⟨w.heap.size + 1 + 1 + 1, 0, none⟩) (.inl (.inl rfl)) _, ⟨(hne _ (by omega)).trans e0, (hne _ (by omega)).trans e1, (hne _ (by omega)).trans e2, ?_, ?_, ?_⟩, hBw.setCell (p := ⟨w.heap.size + 1 + 1 + 1, 0, none⟩) (by dsimp only; omega) _⟩
        · rw [HNX.out]; unfold stepR; rw [HLK.out, HSX.out, hd]; exact World.cell?_setCell_same' _ _ _ (by rw [e3]; rfl)
        · simpa using e4
        · simp [World.setCell]; omega
    · have hd : decide (sx + 1 < f) = false := by simpa using hc
      gi_wp2_with fail
      refine region_held_round l (fun w' : World => w'.cell? ⟨w.heap.size + 1 + 1, 0, none⟩ = some (.slice (some ⟨gj, 0, none⟩) ps.length cj) ∧ w'.cell? ⟨gj, x.toNat, none⟩ = some (I64 sx) ∧ w'.cell? ⟨w.heap.size + 1 + 1 + 1, 0, none⟩ = some (.int .i64 f) ∧ w'.cell? ⟨w.heap.size, 0, none⟩ = some (.pointer (some ⟨b, 0, none⟩)) ∧ w'.cell? ⟨w.heap.size + 1, 0, none⟩ = some (.int .i64 t)) _ (by kernel_rfl) hmix (fun _ _ h => h) ?_
      refine takeH (i := 0) (v := ?vv13) rfl (by kernel_rfl) (by kernel_rfl) (by kernel_rfl) (fun _ _ _ h => h) (Or.inl ⟨by rfl, ?hy13⟩) (by assumption) ?rest13
      case hy13 => (intro w hSw; (try dsimp only at hSw); go_simp; try with_reducible rfl)
      try simp only [Act.put, List.setIfInBounds_toArray, List.set_cons_zero, List.set_cons_succ]
      refine takeH (i := 1) (v := ?vv14) rfl (by kernel_rfl) (by kernel_rfl) (by kernel_rfl) (fun _ _ _ h => h) (Or.inl ⟨by rfl, ?hy14⟩) (by assumption) ?rest14
      case hy14 => (intro w hSw; (try dsimp only at hSw); go_simp; try with_reducible rfl)
      try simp only [Act.put, List.setIfInBounds_toArray, List.set_cons_zero, List.set_cons_succ]
      refine takeH (i := 2) (v := ?vv15) rfl (by kernel_rfl) (by kernel_rfl) (by kernel_rfl) (fun _ _ _ h => h) (Or.inl ⟨by rfl, ?hy15⟩) (by assumption) ?rest15
      case hy15 => (intro w hSw; (try dsimp only at hSw); go_simp; try with_reducible rfl)
      try simp only [Act.put, List.setIfInBounds_toArray, List.set_cons_zero, List.set_cons_succ]
      refine takeH (i := 3) (v := ?vv16) rfl (by kernel_rfl) (by kernel_rfl) (by kernel_rfl) (fun _ _ _ h => h) (Or.inl ⟨by rfl, ?hy16⟩) (by assumption) ?rest16
      case hy16 => (intro w hSw; (try dsimp only at hSw); go_simp; try with_reducible rfl)
      try simp only [Act.put, List.setIfInBounds_toArray, List.set_cons_zero, List.set_cons_succ]
      refine takeH (i := 4) (v := ?vv17) rfl (by kernel_rfl) (by kernel_rfl) (by kernel_rfl) (fun _ _ _ h => h) (Or.inl ⟨by rfl, ?hy17⟩) (by assumption) ?rest17
      case hy17 => (intro w hSw; (try dsimp only at hSw); go_simp; try with_reducible rfl)
      try simp only [Act.put, List.setIfInBounds_toArray, List.set_cons_zero, List.set_cons_succ]
      refine takeH (i := 5) (v := ?vv18) rfl (by kernel_rfl) (by kernel_rfl) (by kernel_rfl) (fun _ _ _ h => h) (Or.inl ⟨by rfl, ?hy18⟩) (by assumption) ?rest18
      case hy18 => (intro w hSw; (try dsimp only at hSw); go_simp; try with_reducible rfl)
      try simp only [Act.put, List.setIfInBounds_toArray, List.set_cons_zero, List.set_cons_succ]
      refine takeH (i := 6) (v := .bool false) rfl (by kernel_rfl) (by kernel_rfl) (by kernel_rfl) (fun _ _ _ h => h) (Or.inl ⟨by rfl, ?hy19⟩) (by assumption) ?rest19
      case hy19 => (intro w hSw; (try dsimp only at hSw); go_simp; try simp [*]; try omega)
      try simp only [Act.put, List.setIfInBounds_toArray, List.set_cons_zero, List.set_cons_succ]
      refine takeH (i := 7) (v := ?vv20) rfl (by kernel_rfl) (by kernel_rfl) (by kernel_rfl) (fun _ _ _ h => h) (Or.inl ⟨by rfl, ?hy20⟩) (by assumption) ?rest20
      case hy20 => (intro w hSw; (try dsimp only at hSw); go_simp; try with_reducible rfl)
      try simp only [Act.put, List.setIfInBounds_toArray, List.set_cons_zero, List.set_cons_succ]
      refine takeH (i := 8) (v := undef) rfl (by kernel_rfl) (by kernel_rfl) (by kernel_rfl) (fun _ _ _ h => h) (Or.inr ⟨by rfl, rfl⟩) (by assumption) ?rest21
      try simp only [Act.put, List.setIfInBounds_toArray, List.set_cons_zero, List.set_cons_succ]
      refine takeH (i := 9) (v := undef) rfl (by kernel_rfl) (by kernel_rfl) (by kernel_rfl) (fun _ _ _ h => h) (Or.inr ⟨by rfl, rfl⟩) (by assumption) ?rest22
      try simp only [Act.put, List.setIfInBounds_toArray, List.set_cons_zero, List.set_cons_succ]
      refine takeH (i := 10) (v := undef) rfl (by kernel_rfl) (by kernel_rfl) (by kernel_rfl) (fun _ _ _ h => h) (Or.inr ⟨by rfl, rfl⟩) (by assumption) ?rest23
      try simp only [Act.put, List.setIfInBounds_toArray, List.set_cons_zero, List.set_cons_succ]
      refine takeH (i := 11) (v := undef) rfl (by kernel_rfl) (by kernel_rfl) (by kernel_rfl) (fun _ _ _ h => h) (Or.inr ⟨by rfl, rfl⟩) (by assumption) ?rest24
      try simp only [Act.put, List.setIfInBounds_toArray, List.set_cons_zero, List.set_cons_succ]
      refine takeH (i := 12) (v := ?vv25) rfl (by kernel_rfl) (by kernel_rfl) (by kernel_rfl) (fun _ _ _ h => h) (Or.inl ⟨by rfl, ?hy25⟩) (by assumption) ?rest25
      case hy25 => (intro w hSw; (try dsimp only at hSw); go_simp; try with_reducible rfl)
      try simp only [Act.put, List.setIfInBounds_toArray, List.set_cons_zero, List.set_cons_succ]
      refine wpAnyH_done (by kernel_rfl) ?_ _
      clear hHeld
      refine Ends.normal ?_
      gi_wp2
      refine ⟨⟨Nat.le_refl _, fun k o hk _ => hk⟩, Chg.drew (Chg.refl _ _), ⟨d0, d1, d2, ?_, d4, d5⟩, hB.drew⟩
      rw [HNX.out]; unfold stepR; rw [HSX.out, hd]; exact d3
  case done =>
    rintro D ys W hD hys ⟨⟨_, _, _, hcr, hfr, _⟩, hB⟩ hK
    gi_wp2
    refine ⟨by simp, .inl ⟨_, _, rfl, run_takeDeferred hK, ?_⟩⟩
    refine ⟨_, results_tmp rfl _ _ _, ?_, hB.trans (belowK_b (w := w) (Nat.le_refl _) _ D _ _ (by omega) hK rfl rfl)⟩
    show Ending.returned (Value.int .i64 _) = _
    unfold stepOf
    rw [if_neg (by omega)]
  case stop =>
    rintro D c pre W hD hpre ⟨hfl, hB⟩ hK
    exact hfl.elim
end Go.Proofs.YtgebcnnenhgkcaaGreat
