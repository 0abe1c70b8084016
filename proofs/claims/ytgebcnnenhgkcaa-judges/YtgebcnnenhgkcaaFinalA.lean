/- justBlocks, Just, linkedChild, finalBlocks, Final. -/
import Derived.Test.YtgebcnnenhgkcaaJustA
namespace Go.Proofs.Ytgebcnnenhgkcaa
open Go.RowKit

theorem row_lower {w : World} {base base' : Nat} {e : TypeId} {size : Nat} {v : Value} {n : Nat} {xs : List Value} (h : w.ownsRow base e size v n xs) (hb : base' ≤ base) : w.ownsRow base' e size v n xs := by
  refine ⟨h.1, ?_⟩
  rcases h.2 with h' | ⟨g, cap, cur, h1, h2, h3⟩
  · exact .inl h'
  · exact .inr ⟨g, cap, cur, h1, Nat.le_trans hb h2, h3⟩
theorem row_set {w : World} {base : Nat} {e : TypeId} {size : Nat} {v : Value} {n : Nat} {xs : List Value} (h : w.ownsRow base e size v n xs) (b o : Nat) (u : Value) (hb : b < base) : (w.setCell ⟨b, o, none⟩ u).ownsRow base e size v n xs := by
  refine ⟨h.1, ?_⟩
  rcases h.2 with h' | ⟨g, cap, cur, h1, h2, h3, h4⟩
  · exact .inl h'
  · exact .inr ⟨g, cap, cur, h1, h2, (Below.heap_setCell _ _ _ _ (by show g ≠ b; omega)).trans h3, h4⟩
theorem row_below {w w' : World} {base B : Nat} {e : TypeId} {size : Nat} {v : Value} {n : Nat} {xs : List Value} (h : w.ownsRow base e size v n xs) (hB : Below B w w') (hb : w.heap.size ≤ B) : w'.ownsRow base e size v n xs := by
  refine ⟨h.1, ?_⟩
  rcases h.2 with h' | ⟨g, cap, cur, h1, h2, h3, h4⟩
  · exact .inl h'
  · exact .inr ⟨g, cap, cur, h1, h2, (hB.block g (by have := (Array.getElem?_eq_some_iff.1 h3).1; omega)).trans h3, h4⟩

def isJust (ws ps : List Int) (vs : List Vt) (b : Int) : Bool := stAt (stepsC ws ps vs) b != 40
/-- The blocks below k that are just, rising. -/
def justN (ws ps : List Int) (vs : List Vt) (k : Nat) : List Int := ((List.range k).map (fun i : Nat => (i : Int))).filter (isJust ws ps vs)
def justL (ws ps : List Int) (vs : List Vt) : List Int := justN ws ps vs ps.length
theorem justN_succ (ws ps : List Int) (vs : List Vt) (k : Nat) : justN ws ps vs (k + 1) = justN ws ps vs k ++ (if isJust ws ps vs k = true then [(k : Int)] else []) := by
  unfold justN
  rw [List.range_succ, List.map_append, List.filter_append]
  congr 1
  by_cases h : isJust ws ps vs k = true <;> simp [h]
theorem justN_length (ws ps : List Int) (vs : List Vt) (k : Nat) : (justN ws ps vs k).length ≤ k := by
  unfold justN
  exact Nat.le_trans (List.length_filter_le _ _) (by simp)
theorem mem_justL {ws ps : List Int} {vs : List Vt} {x : Int} (h : x ∈ justL ws ps vs) : 0 ≤ x ∧ x.toNat < ps.length ∧ isJust ws ps vs x = true := by
  unfold justL justN at h
  simp only [List.mem_filter, List.mem_map, List.mem_range] at h
  obtain ⟨⟨i, hi, rfl⟩, h2⟩ := h
  exact ⟨by omega, by omega, h2⟩

set_option maxRecDepth 100000 in
set_option maxHeartbeats 2000000 in
theorem justBlocks_at (b : Nat) (S : Nat → Prop) (m : Int) (ws ps : List Int) (vs : List Vt) (wv pv vv : Value) (w : World) (h : CourtAt w b S m ws ps vs wv pv vv) (hT : Tree ps) (hW : OkWs ws) (hl : vs.length ≤ 300) (hO : OkV ws.length ps vs) :
    Calls Try.prog 37 #[.pointer (some ⟨b, 0, none⟩)] w fun e w' => (∃ v, e = .returned v ∧ w'.ownsRow w.heap.size 3 1 v (justL ws ps vs).length ((justL ws ps vs).map I64)) ∧ Below w.heap.size w w' := by
  obtain ⟨i0, hi, hz0, hz1, hz2⟩ := info_parts info_int
  have hlen : ps.length ≤ 40 := hT.2.1
  go_enter Try.func37, Try.ntmps37
  go_wp2_with fail
  refine (steps_at b S m ws ps vs _ _ _ _ h hT hW hl hO).mono ?_
  rintro e w1 ⟨⟨g, rfl, hg, hN⟩, hB1⟩
  go_wp2
  have hsz : (stepsC ws ps vs).toArray.size = ps.length := by simp [stepsC_length]
  have hgl := hN.lt
  go_loopw [3, 9] (fun v i wr => ∃ k : Nat, k ≤ ps.length ∧ i = .int .i64 k ∧ Below w1.heap.size w1 wr ∧ wr.ownsRow w1.heap.size 3 1 v (justN ws ps vs k).length ((justN ws ps vs k).map I64)) (fun _ i _ => ps.length - (intOf i).toNat)
  case atStart => exact ⟨0, by omega, rfl, Below.refl _ _, World.ownsRow_nil _ _ _ _⟩
  case round =>
    obtain ⟨k, hk, rfl, hB, hown⟩ := hrel
    have hz := hB.size
    by_cases hlt : k < ps.length
    · have hlt' : (k : Int) < (ps.length : Int) := by omega
      obtain ⟨x, hx⟩ : ∃ x, (stepsC ws ps vs).toArray[k]! = x := ⟨_, rfl⟩
      have hc : wr.cell? ⟨g, k, none⟩ = some (I64 x) := by
        rw [← hx]; exact ((hN.below hB hgl).cell (j := k) (by omega)).1
      have HJ : Hid (isJust ws ps vs k = (x != 40)) := by
        show _ = _
        unfold isJust stAt
        rw [← hx, getElem!_pos _ _ (by omega)]
        simp [List.getElem?_eq_getElem (show k < (stepsC ws ps vs).length by rw [stepsC_length]; exact hlt)]
      have HS : Hid _ := justN_succ ws ps vs k
      have hnk := justN_length ws ps vs k
      clear hx
      obtain ⟨n, hn⟩ : ∃ n, (justN ws ps vs k).length = n := ⟨_, rfl⟩
      obtain ⟨xs, hxs⟩ : ∃ xs, (justN ws ps vs k).map I64 = xs := ⟨_, rfl⟩
      rw [hn, hxs] at hown
      rw [hn] at hnk
      have HX : Hid ((justN ws ps vs k).map I64 = xs) := hxs
      have HL : Hid ((justN ws ps vs k).length = n) := hn
      clear hxs hn
      by_cases h40 : x = 40
      · have q : (x != 40) = false := by simpa using h40
        have HJ' : Hid (isJust ws ps vs k = false) := HJ.out.trans q
        clear h40 HJ
        go_wp2
        go_roundw
        case rel => exact ⟨k + 1, by omega, by go_num, hB, by rw [HS.out, HJ'.out]; simp only [Bool.false_eq_true, if_false, List.append_nil]; rw [HX.out, HL.out]; exact hown⟩
        case measure => simp [intOf]; omega
      · have q : (x != 40) = true := by simpa using h40
        have HJ' : Hid (isJust ws ps vs k = true) := HJ.out.trans q
        clear h40 HJ
        have h63 : Hid (n + 1 ≤ maxLen) := by show _ ≤ _; unfold maxLen; omega
        go_wp2_with (at_builtin; refine wpList_append_own _ (by rfl) _ _ _ (by rfl) w1.heap.size 3 i0 (I64 0) 1 8 Try.underlying22 hi hz0 hz1 hz2 rfl (by omega) _ n xs (by rfl) (hown.alloc _) ⟨wr.heap.size, 0, none⟩ 1 1 [I64 k] (by rfl) (by rfl) (cell_one_new _ _ _) (by simp [Value.oneCell']) h63.out (by omega) (by simp; omega) ?_; intro v1 w2 hown1 hgrow1 hnil1)
        go_roundw
        case rel => exact ⟨k + 1, by omega, by go_num, (hB.alloc hz _).grown hgrow1 (by simp; omega) (fun j e => (hown.lt j e).1), by rw [HS.out, if_pos HJ'.out, List.map_append, HX.out, List.length_append, HL.out]; exact hown1⟩
        case measure => simp [intOf]; omega
    · have hk' : k = ps.length := by omega
      subst hk'
      go_wp2
      go_ret
      exact ⟨⟨_, rfl, row_lower hown hB1.size⟩, hB1.trans (hB.mono hB1.size)⟩

set_option maxHeartbeats 1000000 in
theorem just_at (b : Nat) (S : Nat → Prop) (ws ps : List Int) (vs : List Vt) (wv pv vv : Value) (w : World) (h : CourtAt w b S 0 ws ps vs wv pv vv) (hT : Tree ps) (hW : OkWs ws) (hl : vs.length ≤ 300) (hO : OkV ws.length ps vs) :
    Calls Try.prog 14 #[.pointer (some ⟨b, 0, none⟩)] w fun e w' => (∃ v, e = .returned v ∧ w'.ownsRow w.heap.size 3 1 v (justL ws ps vs).length ((justL ws ps vs).map I64)) ∧ CourtAt w' b S 0 ws ps vs wv pv vv ∧ Chg S w w' := by
  obtain ⟨gw, capw, rfl, _, _, _, _⟩ := row_open h.wrow hW.pos
  obtain ⟨h1, c1⟩ := h.setM 1
  have hd : decide (0 < ws.length) = true := by simpa using hW.pos
  go_enter_defers Try.func14, Try.ntmps14
  go_wp2_with fail
  refine (lock_at b 0 _ h.c0 (h.fz 0)).mono ?_
  rintro e w1 ⟨rfl, hw1⟩
  rw [← hw1] at h1 c1
  clear hw1
  go_wp2_with fail
  refine (made_at b 0 _ _ _ _ h1.c2).mono ?_
  rintro e w2 ⟨rfl, rfl⟩
  rw [hd]
  go_wp2_with fail
  refine (justBlocks_at b S 1 ws ps vs _ pv vv _ h1 hT hW hl hO).mono ?_
  rintro e w4 ⟨⟨v, rfl, hrow⟩, hB5⟩
  have h4 := h1.kept (Chg.of_below (fun _ => False) hB5) (fun _ _ hf => hf)
  go_wp2_with fail
  refine leaves_cons (f := 33) (args := #[.pointer (some ⟨b, 0, none⟩)]) (by simp) (by simp [go_sem]) ?_
  refine (unlock_at b 0 .returning _ h4.c0 (h4.fz 0)).mono ?_
  rintro e u' w'' ⟨rfl, rfl, rfl⟩
  obtain ⟨h5, c5⟩ := h4.setM 0
  exact ⟨_, results_tmp rfl _ _ _, ⟨_, rfl, row_lower (row_set hrow b 0 _ (h1.lt b h1.inb)) c1.size⟩, h5, (c1.trans (Chg.of_below S hB5)).trans c5⟩

theorem isParent_at (b o g cap : Nat) (ps : List Int) (a k : Int) (w : World) (hA : TreeAt w b o g cap ps) (hk0 : 0 ≤ k) (hk1 : k.toNat < ps.length) :
    Calls Try.prog 85 #[.pointer (some ⟨b, o, none⟩), .int .i64 a, .int .i64 k] w fun e w' => e = .returned (.bool (k != 0 && ps[k.toNat]?.getD 0 == a)) ∧ Below w.heap.size w w' := by
  have hpv := hA.pv
  obtain ⟨p, hp⟩ : ∃ p, ps[k.toNat]?.getD 0 = p := ⟨_, rfl⟩
  have hc : w.cell? ⟨g, k.toNat, none⟩ = some (I64 p) := by rw [← hp]; exact hA.cs _ hk1
  have HP : Hid (ps[k.toNat]?.getD 0 = p) := hp
  clear hp
  by_cases h0 : k = 0
  · subst h0
    go_enter Try.func85, Try.ntmps85
    go_wp2
    go_ret
    exact ⟨rfl, Below.refl _ _⟩
  · have q : (k != 0) = true := by simpa using h0
    have hkl : k < (ps.length : Int) := by omega
    go_enter Try.func85, Try.ntmps85
    go_wp2_with (go_at_call 61; refine (has_at b o (some ⟨g, 0, none⟩) ps.length cap k _ hpv).mono ?_; rintro e w' ⟨rfl, rfl⟩; rw [hasB_true hk0 hkl])
    go_ret
    exact ⟨by rw [HP.out, q]; rfl, Below.refl _ _⟩

/-- A child of a block, and enough have voted for a link from it to the child. -/
def isChild (ws ps : List Int) (vs : List Vt) (b c : Int) : Bool := (c != 0 && ps[c.toNat]?.getD 0 == b) && linkB ws vs b c
def childN (ws ps : List Int) (vs : List Vt) (b : Int) (k : Nat) : Option Int := ((List.range k).map (fun i : Nat => (i : Int))).find? (isChild ws ps vs b)
def childF (ws ps : List Int) (vs : List Vt) (b : Int) : Option Int := childN ws ps vs b ps.length
theorem childN_succ (ws ps : List Int) (vs : List Vt) (b : Int) (k : Nat) (h : childN ws ps vs b k = none) : childN ws ps vs b (k + 1) = if isChild ws ps vs b k = true then some (k : Int) else none := by
  unfold childN at *
  rw [List.range_succ, List.map_append, List.find?_append, h]
  by_cases h2 : isChild ws ps vs b k = true
  · simp [h2]
  · simp only [List.map_cons, List.map_nil, List.find?_cons, h2, List.find?_nil]; simp
theorem childN_some {ws ps : List Int} {vs : List Vt} {b : Int} {k n : Nat} {x : Int} (h : childN ws ps vs b k = some x) (hk : k ≤ n) : childN ws ps vs b n = some x := by
  obtain ⟨d, rfl⟩ : ∃ d, n = k + d := ⟨n - k, by omega⟩
  unfold childN at *
  rw [List.range_add, List.map_append, List.find?_append, h]; rfl
abbrev chN : Option Int → Int
  | some x => x
  | none => 0

set_option maxRecDepth 100000 in
set_option maxHeartbeats 2000000 in
theorem linkedChild_at (b : Nat) (S : Nat → Prop) (m : Int) (ws ps : List Int) (vs : List Vt) (wv pv vv : Value) (a : Int) (w : World) (h : CourtAt w b S m ws ps vs wv pv vv) (hT : Tree ps) (hW : OkWs ws) (hl : vs.length ≤ 300) (hO : OkV ws.length ps vs) :
    Calls Try.prog 66 #[.pointer (some ⟨b, 0, none⟩), .int .i64 a] w fun e w' => e = .returned (.tuple #[.int .i64 (chN (childF ws ps vs a)), .bool (childF ws ps vs a).isSome]) ∧ Below w.heap.size w w' := by
  obtain ⟨g0, cap0, rfl, _, _, hcs0, _⟩ := row_open h.prow hT.1
  have hA : TreeAt w b 3 g0 cap0 ps := ⟨h.c3, hcs0⟩
  have h3 := h.c3
  have hlb := hA.lt_b
  have hlg := hA.lt_g hT.1
  have hlen : ps.length ≤ 40 := hT.2.1
  clear hcs0
  go_enter Try.func66, Try.ntmps66
  go_wp2_with fail
  refine (count_at b 3 (some ⟨g0, 0, none⟩) ps.length cap0 _ h3).mono ?_
  rintro e w' ⟨rfl, rfl⟩
  go_wp2
  go_loopw [11] (fun i wr => ∃ k : Nat, k ≤ ps.length ∧ i = .int .i64 k ∧ Below w'.heap.size w' wr ∧ Hid (childN ws ps vs a k = none)) (fun i _ => ps.length - (intOf i).toNat)
  case atStart => exact ⟨0, by omega, rfl, Below.refl _ _, rfl⟩
  case round =>
    obtain ⟨k, hk, rfl, hB, hno⟩ := hrel
    by_cases hlt : k < ps.length
    · have hlt' : (k : Int) < (ps.length : Int) := by omega
      have hA' := hA.below hB hlb hlg
      have hC := h.kept (Chg.of_below (fun _ => False) hB) (fun _ _ hf => hf)
      have HN := childN_succ ws ps vs a k hno.out
      have hpar := isParent_at b 3 g0 cap0 ps a k wr hA' (by omega) (by omega)
      cases hp : ((k : Int) != 0 && ps[(k : Int).toNat]?.getD 0 == a)
      · rw [hp] at hpar
        have HC : Hid (isChild ws ps vs a k = false) := by show _ = _; unfold isChild; rw [hp]; rfl
        clear hp
        have HN' : Hid (childN ws ps vs a (k + 1) = none) := by show _ = _; rw [HN, HC.out]; rfl
        clear HN
        go_wp2_with fail
        refine hpar.mono ?_
        rintro e w3 ⟨rfl, hB3⟩
        go_wp2
        go_roundw
        case rel => exact ⟨k + 1, by omega, by go_num, hB.trans (hB3.mono hB.size), HN'⟩
        case measure => simp [intOf]; omega
      · rw [hp] at hpar
        have HC : Hid (isChild ws ps vs a k = linkB ws vs a k) := by show _ = _; unfold isChild; rw [hp]; rfl
        clear hp
        go_wp2_with fail
        refine hpar.mono ?_
        rintro e w3 ⟨rfl, hB3⟩
        have hC3 := hC.kept (Chg.of_below (fun _ => False) hB3) (fun _ _ hf => hf)
        go_wp2_with fail
        refine (enough_at b S m ws ps vs _ _ _ a k _ hC3 hW hl hO).mono ?_
        rintro e w4 ⟨rfl, hB4⟩
        have hB5 : Below w'.heap.size w' w4 := (hB.trans (hB3.mono hB.size)).trans (hB4.mono (Nat.le_trans hB.size hB3.size))
        cases hlk : linkB ws vs a k
        · have HN' : Hid (childN ws ps vs a (k + 1) = none) := by show _ = _; rw [HN, HC.out, hlk]; rfl
          clear HN hlk HC
          go_wp2
          go_roundw
          case rel => exact ⟨k + 1, by omega, by go_num, hB5, HN'⟩
          case measure => simp [intOf]; omega
        · have HN' : Hid (childF ws ps vs a = some (k : Int)) := by
            show _ = _
            exact childN_some (k := k + 1) (by rw [HN, HC.out, hlk]; rfl) (by omega)
          clear HN hlk HC
          go_wp2
          go_ret2
          exact ⟨by rw [HN'.out]; rfl, hB5⟩
    · have hk' : k = ps.length := by omega
      subst hk'
      go_wp2
      go_ret2
      have : childF ws ps vs a = none := hno.out
      exact ⟨by rw [this]; rfl, hB⟩

def finalL (ws ps : List Int) (vs : List Vt) : List Int := (justL ws ps vs).filter (fun x => (childF ws ps vs x).isSome)

set_option maxRecDepth 100000 in
set_option maxHeartbeats 2000000 in
theorem finalBlocks_at (b : Nat) (S : Nat → Prop) (m : Int) (ws ps : List Int) (vs : List Vt) (wv pv vv : Value) (w : World) (h : CourtAt w b S m ws ps vs wv pv vv) (hT : Tree ps) (hW : OkWs ws) (hl : vs.length ≤ 300) (hO : OkV ws.length ps vs) :
    Calls Try.prog 38 #[.pointer (some ⟨b, 0, none⟩)] w fun e w' => (∃ v, e = .returned v ∧ w'.ownsRow w.heap.size 3 1 v (finalL ws ps vs).length ((finalL ws ps vs).map I64)) ∧ Below w.heap.size w w' := by
  obtain ⟨i0, hi, hz0, hz1, hz2⟩ := info_parts info_int
  have hlen : ps.length ≤ 40 := hT.2.1
  go_enter Try.func38, Try.ntmps38
  go_wp2_with fail
  refine (justBlocks_at b S m ws ps vs _ _ _ _ h hT hW hl hO).mono ?_
  rintro e w1 ⟨⟨v, rfl, hrow⟩, hB1⟩
  obtain ⟨vp, vc, hvv⟩ : ∃ vp vc, v = .slice vp (justL ws ps vs).length vc := by
    rcases hrow.2 with ⟨h', h''⟩ | ⟨g, cap, cur, h', _⟩
    · exact ⟨none, 0, by rw [h', h'']⟩
    · exact ⟨_, _, h'⟩
  subst hvv
  have hjl : (justL ws ps vs).length ≤ ps.length := justN_length ws ps vs ps.length
  obtain ⟨l, hll⟩ : ∃ l, justL ws ps vs = l := ⟨_, rfl⟩
  have HLL : Hid (justL ws ps vs = l) := hll
  rw [hll] at hrow hjl ⊢
  clear hll
  go_wp2
  go_loopw [3, 11] (fun v i wr => ∃ k : Nat, k ≤ l.length ∧ i = .int .i64 k ∧ Below w1.heap.size w1 wr ∧ wr.ownsRow w1.heap.size 3 1 v ((l.take k).filter (fun x => (childF ws ps vs x).isSome)).length (((l.take k).filter (fun x => (childF ws ps vs x).isSome)).map I64)) (fun _ i _ => l.length - (intOf i).toNat)
  case atStart => exact ⟨0, by omega, rfl, Below.refl _ _, World.ownsRow_nil _ _ _ _⟩
  case round =>
    obtain ⟨k, hk, rfl, hB, hown⟩ := hrel
    have hz := hB.size
    by_cases hlt : k < l.length
    · have hlt' : (k : Int) < (l.length : Int) := by omega
      obtain ⟨gl, capl, hgl, _, _, hcl, _⟩ := row_open (row_low hrow) (by omega)
      simp only [Value.slice.injEq, true_and] at hgl
      obtain ⟨rfl, rfl⟩ := hgl
      obtain ⟨y, hy⟩ : ∃ y, l[k]? = some y := ⟨_, List.getElem?_eq_getElem hlt⟩
      have hgll : gl < w1.heap.size := World.block_lt_of_cell? w1 _ (hcl k hlt)
      have hc : wr.cell? ⟨gl, k, none⟩ = some (I64 y) := by rw [hB.cell (p := ⟨gl, k, none⟩) hgll, hcl k hlt, hy]; rfl
      have hC := h.kept (Chg.of_below (fun _ => False) (hB1.trans (hB.mono hB1.size))) (fun _ _ hf => hf)
      have HS : Hid ((l.take (k + 1)).filter (fun x => (childF ws ps vs x).isSome) = (l.take k).filter (fun x => (childF ws ps vs x).isSome) ++ (if (childF ws ps vs y).isSome = true then [y] else [])) := by
        show _ = _
        rw [List.take_add_one, hy]
        by_cases e : (childF ws ps vs y).isSome = true
        · simp [List.filter_append, e]
        · simp [List.filter_append, e]
      clear hcl hy
      obtain ⟨z, hzz⟩ : ∃ z, (l.take k).filter (fun x => (childF ws ps vs x).isSome) = z := ⟨_, rfl⟩
      have hnk : z.length ≤ k := by
        rw [← hzz]; exact Nat.le_trans (List.length_filter_le _ _) (by simp; omega)
      rw [hzz] at hown
      have HZ : Hid ((l.take k).filter (fun x => (childF ws ps vs x).isSome) = z) := hzz
      clear hzz
      go_wp2_with fail
      refine (linkedChild_at b S m ws ps vs _ _ _ y wr hC hT hW hl hO).mono ?_
      rintro e w3 ⟨rfl, hB3⟩
      have hown3 := row_below hown hB3 (Nat.le_refl _)
      have hB4 : Below w1.heap.size w1 w3 := hB.trans (hB3.mono hz)
      have hz4 := hB4.size
      cases hch : (childF ws ps vs y).isSome
      · have HS' : Hid ((l.take (k + 1)).filter (fun x => (childF ws ps vs x).isSome) = z) := by show _ = _; rw [HS.out, hch, HZ.out]; simp
        clear HS hch
        go_wp2
        go_roundw
        case rel => exact ⟨k + 1, by omega, by go_num, hB4, by rw [HS'.out]; exact hown3⟩
        case measure => simp [intOf]; omega
      · have HS' : Hid ((l.take (k + 1)).filter (fun x => (childF ws ps vs x).isSome) = z ++ [y]) := by show _ = _; rw [HS.out, hch, HZ.out]; simp
        clear HS hch
        have h63 : Hid (z.length + 1 ≤ maxLen) := by show _ ≤ _; unfold maxLen; omega
        go_wp2_with (at_builtin; refine wpList_append_own _ (by rfl) _ _ _ (by rfl) w1.heap.size 3 i0 (I64 0) 1 8 Try.underlying22 hi hz0 hz1 hz2 rfl (by omega) _ z.length (z.map I64) (by rfl) (hown3.alloc _) ⟨w3.heap.size, 0, none⟩ 1 1 [I64 y] (by rfl) (by rfl) (cell_one_new _ _ _) (by simp [Value.oneCell']) h63.out (by omega) (by simp; omega) ?_; intro v1 w2 hown1 hgrow1 hnil1)
        go_roundw
        case rel => exact ⟨k + 1, by omega, by go_num, (hB4.alloc hz4 _).grown hgrow1 (by simp; omega) (fun j e => (hown3.lt j e).1), by rw [HS'.out, List.map_append, List.length_append]; exact hown1⟩
        case measure => simp [intOf]; omega
    · have hk' : k = l.length := by omega
      subst hk'
      rw [List.take_length] at hown
      go_wp2
      go_ret
      unfold finalL
      rw [HLL.out]
      exact ⟨⟨_, rfl, row_lower hown hB1.size⟩, hB1.trans (hB.mono hB1.size)⟩

set_option maxHeartbeats 1000000 in
theorem final_at (b : Nat) (S : Nat → Prop) (ws ps : List Int) (vs : List Vt) (wv pv vv : Value) (w : World) (h : CourtAt w b S 0 ws ps vs wv pv vv) (hT : Tree ps) (hW : OkWs ws) (hl : vs.length ≤ 300) (hO : OkV ws.length ps vs) :
    Calls Try.prog 15 #[.pointer (some ⟨b, 0, none⟩)] w fun e w' => (∃ v, e = .returned v ∧ w'.ownsRow w.heap.size 3 1 v (finalL ws ps vs).length ((finalL ws ps vs).map I64)) ∧ CourtAt w' b S 0 ws ps vs wv pv vv ∧ Chg S w w' := by
  obtain ⟨gw, capw, rfl, _, _, _, _⟩ := row_open h.wrow hW.pos
  obtain ⟨h1, c1⟩ := h.setM 1
  have hd : decide (0 < ws.length) = true := by simpa using hW.pos
  go_enter_defers Try.func15, Try.ntmps15
  go_wp2_with fail
  refine (lock_at b 0 _ h.c0 (h.fz 0)).mono ?_
  rintro e w1 ⟨rfl, hw1⟩
  rw [← hw1] at h1 c1
  clear hw1
  go_wp2_with fail
  refine (made_at b 0 _ _ _ _ h1.c2).mono ?_
  rintro e w2 ⟨rfl, rfl⟩
  rw [hd]
  go_wp2_with fail
  refine (finalBlocks_at b S 1 ws ps vs _ pv vv _ h1 hT hW hl hO).mono ?_
  rintro e w4 ⟨⟨v, rfl, hrow⟩, hB5⟩
  have h4 := h1.kept (Chg.of_below (fun _ => False) hB5) (fun _ _ hf => hf)
  go_wp2_with fail
  refine leaves_cons (f := 33) (args := #[.pointer (some ⟨b, 0, none⟩)]) (by simp) (by simp [go_sem]) ?_
  refine (unlock_at b 0 .returning _ h4.c0 (h4.fz 0)).mono ?_
  rintro e u' w'' ⟨rfl, rfl, rfl⟩
  obtain ⟨h5, c5⟩ := h4.setM 0
  exact ⟨_, results_tmp rfl _ _ _, ⟨_, rfl, row_lower (row_set hrow b 0 _ (h1.lt b h1.inb)) c1.size⟩, h5, (c1.trans (Chg.of_below S hB5)).trans c5⟩
end Go.Proofs.Ytgebcnnenhgkcaa
