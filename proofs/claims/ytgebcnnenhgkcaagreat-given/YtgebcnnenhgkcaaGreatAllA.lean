/- All: the votes as they were given when it was asked; the iterator that gives them. -/
import Derived.Test.YtgebcnnenhgkcaaGreatVoteA
import Derived.Test.YtgebcnnenhgkcaaGreatNewA
namespace Go.Proofs.YtgebcnnenhgkcaaGreat
open Go.RowKit Go.Shelf
attribute [local go_sem] Oper.semAt_some

/-- Both votes are the same. -/
theorem sameVotes_at (a b : Vt) (w : World) :
    Calls Tryz.prog 14 #[a.val, b.val] w fun e w' => e = .returned (.bool (a.is b)) ∧ Below w.heap.size w w' := by
  have hB : Below w.heap.size w ((w.alloc (.cells #[I64 a.v, I64 a.s, I64 a.t] 47)).alloc (.cells #[I64 b.v, I64 b.s, I64 b.t] 47)) := ((Below.refl _ _).alloc (Nat.le_refl _) _).alloc (by simp) _
  by_cases e0 : a.v = b.v
  · by_cases e1 : a.s = b.s
    · have q0 : (a.v == b.v) = true := by simpa using e0
      have q1 : (a.s == b.s) = true := by simpa using e1
      clear e0 e1
      have HE : Hid (a.is b = (a.t == b.t)) := by show _ = _; simp [Vt.is, q0, q1]
      go_enter Tryz.func14, Tryz.ntmps14
      go_wp2
      go_ret
      exact ⟨by rw [HE.out]; rfl, hB⟩
    · have q0 : (a.v == b.v) = true := by simpa using e0
      have q1 : (a.s == b.s) = false := by simpa using e1
      clear e0 e1
      have HE : Hid (a.is b = false) := by show _ = _; simp [Vt.is, q0, q1]
      go_enter Tryz.func14, Tryz.ntmps14
      go_wp2
      go_ret
      exact ⟨by rw [HE.out]; rfl, hB⟩
  · have q0 : (a.v == b.v) = false := by simpa using e0
    clear e0
    have HE : Hid (a.is b = false) := by show _ = _; simp [Vt.is, q0]
    go_enter Tryz.func14, Tryz.ntmps14
    go_wp2
    go_ret
    exact ⟨by rw [HE.out]; rfl, hB⟩

theorem each_at (v : Value) (h1 : v.oneCell' = true) (w : World) :
    Calls Tryz.prog 35 #[v] w fun e w' => e = .returned (.func (.func 68) #[] #[.pointer (some ⟨w.heap.size, 0, none⟩)]) ∧ w' = w.alloc (.cells #[v] 39) := by
  have hmf : ∀ (fn : Fn) (first cap : Array Value) (w : World), (Instr.makeFunc fn first cap).run Tryz.prog w = .ok (.func fn first cap) w := fun _ _ _ _ => rfl
  cases v <;> first | (simp [Value.oneCell'] at h1; done) | skip
  all_goals
    go_enter Tryz.func35, Tryz.ntmps35
    go_wp2
    go_ret
    exact ⟨rfl, rfl⟩

/-- What an iterator reads: the box and the row behind it. -/
structure Snap (w : World) (Bx : Nat) (v : Value) (vs : List Vt) : Prop where
  box : w.heap[Bx]? = some (.cells #[v] 39 (0, 0))
  row : w.ownsRow 0 47 3 v vs.length (vtRow vs)
  len : vs.length ≤ 300

def snapKeep (Bx : Nat) (v : Value) (W W' : World) : Prop := ∀ k, k = Bx ∨ v.ownBlock = some k → W'.heap[k]? = W.heap[k]?

theorem Snap.kept {w w' : World} {Bx : Nat} {v : Value} {vs : List Vt} (h : Snap w Bx v vs) (hk : snapKeep Bx v w w') : Snap w' Bx v vs := by
  refine ⟨(hk Bx (.inl rfl)).trans h.box, ⟨h.row.1, ?_⟩, h.len⟩
  rcases h.row.2 with hn | ⟨g, cap, cur, rfl, hb, hgg, rest⟩
  · exact .inl hn
  · exact .inr ⟨g, cap, cur, rfl, hb, (hk g (.inr rfl)).trans hgg, rest⟩

set_option maxRecDepth 100000 in
set_option maxHeartbeats 2000000 in
theorem each1_in (n l Bx : Nat) (v : Value) (vs : List Vt) (J Jx : List Vt → World → Prop) (W : World) (hJ : AbidesFrom W.heap.size J)
    (hY : ∀ pre x W, J pre W → pre.length < vs.length → YieldAt Fence.wide (n - 1) Tryz.prog l #[x.val] W fun e W' =>
      (e = .returned (.bool true) ∧ J (pre ++ [x]) W' ∧ snapKeep Bx v W W') ∨ (e = .returned (.bool false) ∧ Jx (pre ++ [x]) W'))
    (hS : Snap W Bx v vs) (h0 : J [] W) :
    CallsIn Fence.wide n Tryz.prog 68 #[.func (.yield l) #[] #[], .pointer (some ⟨Bx, 0, none⟩)] W fun e W' => (∃ v, e = .returned v) ∧
      ((∃ ys, ys = vs ∧ J ys W') ∨ (∃ pre, pre <+: vs ∧ Jx pre W')) := by
  obtain ⟨vp, vc, rfl⟩ : ∃ vp vc, v = .slice vp vs.length vc := by
    rcases hS.row.2 with ⟨h', h''⟩ | ⟨g, cap, cur, h', _⟩
    · exact ⟨none, 0, by rw [h', h'']⟩
    · exact ⟨_, _, h'⟩
  have hlen := hS.len
  have hb0 : W.cell? ⟨Bx, 0, none⟩ = some (.slice vp vs.length vc) := by rw [cell_of_heap hS.box]; rfl
  refine callsIn_of_wp Tryz.func68 rfl trivial ?_ rfl
  simp only [Tryz.ntmps68, List.size_toArray, List.length_cons, List.length_nil, Nat.reduceAdd, Nat.reduceSub, Array.replicate_succ, Array.replicate_zero, List.push_toArray, List.append_toArray, List.nil_append, List.cons_append]
  gi_wp2
  gi_loopw [7] (fun i wr => ∃ k : Nat, k ≤ vs.length ∧ i = .int .i64 k ∧ Snap wr Bx (.slice vp vs.length vc) vs ∧ J (vs.take k) wr)
    (fun i _ => vs.length - (intOf i).toNat)
  case atStart => exact ⟨0, by omega, rfl, hS, by simpa using h0⟩
  case round =>
    obtain ⟨k, hk, rfl, hSr, hJs⟩ := hrel
    by_cases hlt : k < vs.length
    · obtain ⟨gv, cap, hgv, _, _, hc, _⟩ := vrow_open hSr.row (by omega)
      simp only [Value.slice.injEq, true_and] at hgv
      obtain ⟨rfl, rfl⟩ := hgv
      obtain ⟨y, hy⟩ : ∃ y, vs[k]? = some y := ⟨_, List.getElem?_eq_getElem hlt⟩
      obtain ⟨hc0, hc1, hc2⟩ := hc k y hy
      have HY : Hid (vs[k]? = some y) := hy
      have HT : Hid (vs.take (k + 1) = vs.take k ++ [y]) := by show _ = _; rw [List.take_add_one, hy]; rfl
      clear hy hc
      have hlt' : (k : Int) < (vs.length : Int) := by omega
      have hJa : J (vs.take k) (wr.alloc (.cells #[I64 y.v, I64 y.s, I64 y.t] 47)) := hJ _ _ _ none hJs (World.grownBy_alloc _ _ none) (fun r e => by cases e)
      obtain ⟨fn, tmps, assign, body, hy2, hR⟩ := hY (vs.take k) y _ hJa (by simp; omega)
      gi_wp2
      refine ⟨fun h => (by cases h), hR.mono ?_⟩
      rintro e W3 (⟨rfl, hJ3, hk3⟩ | ⟨rfl, hJx3⟩)
      · have hS3 : Snap W3 Bx (.slice (some ⟨gv, 0, none⟩) vs.length vc) vs := (hSr.kept (fun k hk => Below.heap_alloc _ _ k (by
          rcases hk with rfl | hk
          · exact (Array.getElem?_eq_some_iff.1 hSr.box).1
          · exact (hSr.row.lt k hk).2))).kept hk3
        gi_wp2
        go_roundw
        case rel => exact ⟨k + 1, by omega, by go_num, hS3, by rw [HT.out]; exact hJ3⟩
        case measure => simp [intOf]; omega
      · gi_wp2
        refine bodyPost_ret (results_none rfl _ _ _) rfl ?_
        exact ⟨⟨_, rfl⟩, .inr ⟨vs.take k ++ [y], by rw [← HT.out]; exact List.take_prefix _ _, hJx3⟩⟩
    · gi_wp2
      go_end0
      exact ⟨⟨_, rfl⟩, .inl ⟨vs.take k, List.take_of_length_le (by omega), hJs⟩⟩

/-- The iterator's contract: all votes, in their order; or some of them, where a round has said no more. -/
theorem each_stops (n Bx : Nat) (v : Value) (vs : List Vt) (w : World) (hS : Snap w Bx v vs) :
    SeqStopsK Fence.wide n Tryz.prog 68 #[.pointer (some ⟨Bx, 0, none⟩)] (fun x : Vt => #[x.val]) (snapKeep Bx v) (fun ys => ys = vs) (fun pre => pre <+: vs) vs.length w :=
  fun l J Jx W hW hJ _ hY h0 => each1_in n l Bx v vs J Jx W hJ hY (hS.kept (fun k hk => hW.block k (by
    rcases hk with rfl | hk
    · exact (Array.getElem?_eq_some_iff.1 hS.box).1
    · exact (hS.row.lt k hk).2))) h0

theorem all_nil (w : World) :
    Calls Tryz.prog 9 #[.pointer none] w fun e w' => e = .returned (.func (.func 68) #[] #[.pointer (some ⟨w.heap.size, 0, none⟩)]) ∧ w' = w.alloc (.cells #[.slice none 0 0] 39) := by
  go_enter_defers Tryz.func9, Tryz.ntmps9
  go_wp2_with (first | (go_at_call 32; refine (lock_nil _).mono ?_; rintro e w' ⟨rfl, rfl⟩) | (go_at_call 34; refine (made_nil _).mono ?_; rintro e w' ⟨rfl, rfl⟩) | (go_at_call 35; refine (each_at (.slice none 0 0) rfl _).mono ?_; rintro e w' ⟨rfl, rfl⟩))
  refine leaves_cons (f := 33) (args := #[.pointer none]) (by simp) (by simp [go_sem]) ?_
  refine (unlock_nil .returning _).mono ?_
  rintro e u' w'' ⟨rfl, rfl, rfl⟩
  exact ⟨_, results_tmp rfl _ _ _, rfl, rfl⟩

set_option maxRecDepth 100000 in
set_option maxHeartbeats 1000000 in
theorem cloneVotes_at (vv : Value) (vs : List Vt) (w : World) (h : w.ownsRow 0 47 3 vv vs.length (vtRow vs)) (hl : vs.length ≤ 300) :
    Calls Tryz.prog 36 #[vv] w fun e w' => ∃ v', e = .returned v' ∧ v'.oneCell' = true ∧
      w'.ownsRow w.heap.size 47 3 v' vs.length (vtRow vs) ∧ Below w.heap.size w w' := by
  obtain ⟨i0, hi, hz0, hz1, hz2⟩ := info_parts info_vote
  have h63 : Hid (0 + vs.length ≤ maxLen) := by show _ ≤ _; unfold maxLen; omega
  have q39 : ∀ (w : World) (a : Option Addr) (n c : Nat), (binOp .eql 39 (.slice a n c) (.slice none 0 0)).run Tryz.prog w = .ok (.bool a.isNone) w := fun w a n c => Lib.run_eql_slice_nil w _ _ a n c 0 0 Tryz.underlying39
  have hrl := vtRow_length vs
  rcases h.2 with ⟨rfl, h0⟩ | ⟨g, cap, cur, rfl, _, hg, hle, _⟩
  · have : vs = [] := List.eq_nil_of_length_eq_zero h0
    subst this
    go_enter Tryz.func36, Tryz.ntmps36
    go_wp2
    go_ret
    exact ⟨_, rfl, rfl, World.ownsRow_nil _ _ _ _, Below.refl _ _⟩
  · have hnews : ∀ j u, (vtRow vs)[j]? = some u → (w.alloc (.cells #[] 47)).cell? ((⟨g, 0, none⟩ : Addr).add j) = some u := fun j u hu => (h.alloc _).cells (g := g) rfl j u hu
    have hown0 : (w.alloc (.cells #[] 47)).ownsRow w.heap.size 47 3 (.slice (some ⟨w.heap.size, 0, none⟩) 0 0) 0 [] := World.ownsRow_lit w #[] 0 (Nat.le_refl _) (Nat.zero_le _) (by simp)
    have h1c : ∀ u ∈ vtRow vs, u.oneCell' = true := fun u hu => by
      simp [vtRow, vtCells] at hu
      obtain ⟨x, _, rfl | rfl | rfl⟩ := hu <;> rfl
    clear hg
    go_enter Tryz.func36, Tryz.ntmps36
    go_wp2_with (at_builtin; refine wpList_append_own _ (by rfl) _ _ _ (by rfl) w.heap.size 47 i0 (.agg #[I64 0, I64 0, I64 0]) 3 24 Tryz.underlying39 hi hz0 hz1 hz2 rfl (by omega) (.slice (some ⟨w.heap.size, 0, none⟩) 0 0) 0 [] (by rfl) hown0 ⟨g, 0, none⟩ vs.length cap (vtRow vs) (by rfl) hrl hnews h1c h63.out (by omega) (by simp) ?_; intro v1 w1 hown1 hgrow1 hnil1)
    go_ret
    simp only [Nat.zero_add, List.nil_append] at hown1
    refine ⟨v1, rfl, ?_, hown1, ((Below.refl _ w).alloc (Nat.le_refl _) _).grown hgrow1 (by simp) (fun k e => by simp [Value.ownBlock] at e; omega)⟩
    rcases hown1.2 with ⟨rfl, _⟩ | ⟨_, _, _, rfl, _⟩ <;> rfl

set_option maxHeartbeats 1000000 in
/-- All: an iterator over a copy of the votes. -/
theorem all_at (b : Nat) (S : Nat → Prop) (ws ps : List Int) (vs : List Vt) (wv pv vv : Value) (w : World) (h : CourtAt w b S 0 ws ps vs wv pv vv) (hw : 0 < ws.length) (hl : vs.length ≤ 300) :
    Calls Tryz.prog 9 #[.pointer (some ⟨b, 0, none⟩)] w fun e w' => ∃ Bx v', e = .returned (.func (.func 68) #[] #[.pointer (some ⟨Bx, 0, none⟩)]) ∧
      Snap w' Bx v' vs ∧ w.heap.size ≤ Bx ∧ (∀ k, v'.ownBlock = some k → w.heap.size ≤ k) ∧ CourtAt w' b S 0 ws ps vs wv pv vv ∧ Chg S w w' := by
  obtain ⟨gw, capw, rfl, _, _, _, _⟩ := row_open h.wrow hw
  obtain ⟨h1, c1⟩ := h.setM 1
  have hd : decide (0 < ws.length) = true := by simpa using hw
  go_enter_defers Tryz.func9, Tryz.ntmps9
  go_wp2_with fail
  refine (lock_at b 0 _ h.c0 (h.fz 0)).mono ?_
  rintro e w1 ⟨rfl, hw1⟩
  rw [← hw1] at h1 c1
  clear hw1
  go_wp2_with fail
  refine (made_at b 0 _ _ _ _ h1.c2).mono ?_
  rintro e w2 ⟨rfl, rfl⟩
  rw [hd]
  have h14 := h1.c4
  go_wp2_with fail
  refine (cloneVotes_at vv vs _ h1.vrow hl).mono ?_
  rintro e w3 ⟨v', rfl, h1c, hown3, hB3⟩
  go_wp2_with fail
  refine (each_at v' h1c _).mono ?_
  rintro e w4 ⟨rfl, hw4⟩
  have hB4 : Below w2.heap.size w2 w4 := by rw [hw4]; exact hB3.alloc hB3.size _
  have hS4 : Snap w4 w3.heap.size v' vs := ⟨by rw [hw4]; exact heap_alloc_new w3 _, by rw [hw4]; exact (row_base hown3).alloc _, hl⟩
  have hz2 := c1.size
  have hz3 := hB3.size
  clear hw4
  have h4 := h1.kept (Chg.of_below (fun _ => False) hB4) (fun _ _ hf => hf)
  go_wp2_with fail
  refine leaves_cons (f := 33) (args := #[.pointer (some ⟨b, 0, none⟩)]) (by simp) (by simp [go_sem]) ?_
  refine (unlock_at b 0 .returning _ h4.c0 (h4.fz 0)).mono ?_
  rintro e u' w'' ⟨rfl, rfl, rfl⟩
  obtain ⟨h5, c5⟩ := h4.setM 0
  have hbl := h.lt b h.inb
  refine ⟨_, results_tmp rfl _ _ _, w3.heap.size, v', rfl, hS4.kept (fun k hk => Below.heap_setCell _ _ _ k ?_), by omega, fun k hk => by have := (hown3.lt k hk).1; omega, h5, (c1.trans (Chg.of_below S hB4)).trans c5⟩
  rcases hk with rfl | hk
  · simp; omega
  · have := (hown3.lt k hk).1; simp; omega
end Go.Proofs.YtgebcnnenhgkcaaGreat
