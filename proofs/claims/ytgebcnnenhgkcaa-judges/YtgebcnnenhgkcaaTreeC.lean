/- The way up, told to a yield that is handed a block, and may turn blocks of its own (T). -/
import Derived.Test.YtgebcnnenhgkcaaTreeA
namespace Go.Proofs.Ytgebcnnenhgkcaa
open Go.RowKit Go.Shelf
attribute [local go_sem] Oper.semAt_some

set_option maxRecDepth 100000 in
set_option maxHeartbeats 1000000 in
/-- The way up, told to a yield: each one ahead, in its order; or some of them, where a round has said no more. -/
theorem ahead1c_in (T : Nat → Prop) (n l Bb Bt b o g cap : Nat) (ps : List Int) (hT : Tree ps) (k : Int) (hk0 : 0 ≤ k) (hk1 : k.toNat < ps.length) (J Jx : List Int → World → Prop)
    (hY : ∀ pre x W, 0 ≤ x → x.toNat < ps.length → J pre W → pre.length < (up ps k).length → YieldAt Fence.wide (n - 1) Try.prog l #[.int .i64 x] W fun e W' =>
      (e = .returned (.bool true) ∧ J (pre ++ [x]) W' ∧ Chg T W W') ∨ (e = .returned (.bool false) ∧ Jx (pre ++ [x]) W'))
    (W : World) (hBb : W.cell? ⟨Bb, 0, none⟩ = some (.int .i64 k)) (hBt : W.cell? ⟨Bt, 0, none⟩ = some (.pointer (some ⟨b, o, none⟩))) (hlt : ¬ T Bt) (hlb : ¬ T b) (hlg : ¬ T g)
    (hpv : W.cell? ⟨b, o, none⟩ = some (.slice (some ⟨g, 0, none⟩) ps.length cap))
    (hcs : ∀ j, j < ps.length → W.cell? ⟨g, j, none⟩ = some (.int .i64 (ps[j]?.getD 0))) (h0 : J [] W) :
    CallsIn Fence.wide n Try.prog 110 #[.func (.yield l) #[] #[], .pointer (some ⟨Bb, 0, none⟩), .pointer (some ⟨Bt, 0, none⟩)] W fun e W' => (∃ v, e = .returned v) ∧
      ((∃ ys, ys = up ps k ∧ J ys W') ∨ (∃ pre, pre <+: up ps k ∧ Jx pre W')) := by
  have hlen : ps.length ≤ 40 := hT.2.1
  have hfn : Fence.wide.fn 61 := trivial
  refine callsIn_of_wp Try.func110 rfl trivial ?_ rfl
  simp only [Try.ntmps110, List.size_toArray, List.length_cons, List.length_nil, Nat.reduceAdd, Nat.reduceSub, Array.replicate_succ, Array.replicate_zero, List.push_toArray, List.append_toArray, List.nil_append, List.cons_append]
  gi_wp2
  gi_loopw [4] (fun p wr => ∃ (pre : List Int) (x : Int), p = .int .i64 x ∧ 0 ≤ x ∧ x.toNat < ps.length ∧ up ps k = pre ++ up ps x ∧ Chg T W wr ∧ J pre wr)
    (fun p _ => (intOf p).toNat)
  case atStart =>
    exact ⟨[], k, rfl, hk0, hk1, rfl, Chg.refl _ _, h0⟩
  case round =>
    obtain ⟨pre, x, rfl, hx0, hx1, hup, hB, hJs⟩ := hrel
    have hBt' : wr.cell? ⟨Bt, 0, none⟩ = some (.pointer (some ⟨b, o, none⟩)) := hB.cell hBt hlt
    have hpv' : wr.cell? ⟨b, o, none⟩ = some (.slice (some ⟨g, 0, none⟩) ps.length cap) := hB.cell hpv hlb
    by_cases hx : x = 0
    · subst hx
      have HU : Hid (up ps k = pre ++ up ps 0) := hup
      clear hup
      gi_wp2
      go_end0
      exact ⟨⟨_, rfl⟩, .inl ⟨pre, by simp [HU.out, up_zero], hJs⟩⟩
    · have hxp : 0 < x := by omega
      obtain ⟨p, hpe⟩ : ∃ p, ps[x.toNat]?.getD 0 = p := ⟨_, rfl⟩
      have hcx : wr.cell? ⟨g, x.toNat, none⟩ = some (.int .i64 p) := by rw [← hpe]; exact hB.cell (hcs _ hx1) hlg
      have hpr := hT.2.2.2 x.toNat (by omega) hx1
      rw [hpe] at hpr
      have HU : Hid (up ps k = pre ++ up ps x) := hup
      clear hup
      have HS : Hid (up ps x = p :: up ps p) := by rw [← hpe]; exact up_step hT hxp hx1
      clear hpe
      obtain ⟨fn, tmps, assign, body, hy, hR⟩ := hY pre p wr (by omega) (by omega) hJs (by rw [HU.out, HS.out]; simp)
      have hxb : (x != 0) = true := by simpa using hx
      gi_wp2_with (refine ⟨fun h => (by cases h), ?_⟩; gi_at_call 61; refine (callsIn_wide.2 (has_at b o (some ⟨g, 0, none⟩) ps.length cap x _ hpv')).mono ?_; rintro e w' ⟨rfl, rfl⟩; rw [hasB_true hx0 (by omega)])
      refine ⟨fun h => (by cases h), hR.mono ?_⟩
      rintro e W3 (⟨rfl, hJ3, hk3⟩ | ⟨rfl, hJx3⟩)
      · gi_wp2
        go_roundw
        case rel => exact ⟨pre ++ [p], p, rfl, by omega, by omega, by rw [HU.out, HS.out]; simp, hB.trans hk3, hJ3⟩
        case measure => simp [intOf]; omega
      · gi_wp2
        refine bodyPost_ret (results_none rfl _ _ _) rfl ?_
        exact ⟨⟨_, rfl⟩, .inr ⟨pre ++ [p], ⟨up ps p, by rw [HU.out, HS.out]; simp⟩, hJx3⟩⟩


/-- A block's number. -/
abbrev BlkN (n : Nat) := { x : Int // 0 ≤ x ∧ x.toNat < n }

/-- The same, where a round may know that it is handed a block. -/
theorem ahead_stopsC (T : Nat → Prop) (n Bb Bt b o g cap : Nat) (ps : List Int) (hT : Tree ps) (k : Int) (hk0 : 0 ≤ k) (hk1 : k.toNat < ps.length) (w : World) (hlt : ¬ T Bt) (hlb : ¬ T b) (hlg : ¬ T g)
    (hb : w.cell? ⟨Bb, 0, none⟩ = some (.int .i64 k)) (ht : w.cell? ⟨Bt, 0, none⟩ = some (.pointer (some ⟨b, o, none⟩))) (hA : TreeAt w b o g cap ps) :
    SeqStopsK Fence.wide n Try.prog 110 #[.pointer (some ⟨Bb, 0, none⟩), .pointer (some ⟨Bt, 0, none⟩)] (fun x : BlkN ps.length => #[Value.int .i64 x.1]) (Chg T) (fun ys => ys.map Subtype.val = up ps k) (fun pre => pre.map Subtype.val <+: up ps k) (up ps k).length w :=
  fun l J Jx W hW _ _ hY h0 => by
    have hA' := hA.below hW hA.lt_b (hA.lt_g hT.1)
    refine (ahead1c_in T n l Bb Bt b o g cap ps hT k hk0 hk1 (fun pre W => ∃ m : List (BlkN ps.length), m.map Subtype.val = pre ∧ J m W) (fun pre W => ∃ m : List (BlkN ps.length), m.map Subtype.val = pre ∧ Jx m W) ?_ W ((hW.cell (p := ⟨Bb, 0, none⟩) (World.block_lt_of_cell? w _ hb)).trans hb) ((hW.cell (p := ⟨Bt, 0, none⟩) (World.block_lt_of_cell? w _ ht)).trans ht) hlt hlb hlg hA'.pv hA'.cs ⟨[], rfl, h0⟩).mono ?_
    · rintro pre x W1 hx0 hx1 ⟨m, rfl, hJ⟩ hlen
      refine (hY m ⟨x, hx0, hx1⟩ W1 hJ (by simpa using hlen)).mono ?_
      rintro e w' (⟨he, hj, hk⟩ | ⟨he, hj⟩)
      · exact .inl ⟨he, ⟨_, by simp, hj⟩, hk⟩
      · exact .inr ⟨he, ⟨_, by simp, hj⟩⟩
    · rintro e W' ⟨hv, ⟨ys, hys, m, hm, hj⟩ | ⟨pre, hp, m, hm, hj⟩⟩
      · exact ⟨hv, .inl ⟨m, hm.trans hys, hj⟩⟩
      · exact ⟨hv, .inr ⟨m, by show _ <+: _; rw [hm]; exact hp, hj⟩⟩

theorem chgK_b {T : Nat → Prop} {w : World} (hT : ∀ k, w.heap.size ≤ k → T k) (W : World) (l : Nat) (o o' : Obj) (hl : w.heap.size ≤ l) (_ : W.heap[l]? = some o) (_ : o.isCells = false) (_ : o.isWalk = false) : Chg T W (W.putObj l o') :=
  (Chg.refl T W).grown (grownBy_putObj' W l o') (fun k e => by cases e; exact .inl (hT _ hl))
end Go.Proofs.Ytgebcnnenhgkcaa
