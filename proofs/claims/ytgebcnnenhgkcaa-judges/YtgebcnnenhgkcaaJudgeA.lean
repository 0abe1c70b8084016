/- Judge's own parts: IsAhead of any number, Agree, who is enough, right proofs. -/
import Derived.Test.YtgebcnnenhgkcaaIsAhead
import Derived.Test.YtgebcnnenhgkcaaFinalA
import Derived.Test.YtgebcnnenhgkcaaFault
import Derived.Test.YtgebcnnenhgkcaaRefK
import Derived.Test.YtgebcnnenhgkcaaNewA
import Derived.Lib.SliceRun
namespace Go.Proofs.Ytgebcnnenhgkcaa
open Go.RowKit Go.Shelf
attribute [local go_sem] Oper.semAt_some

/-- No block: nobody is ahead of it. -/
theorem ahead1_out (n l Bb Bt b o g cap : Nat) (ps : List Int) (k : Int) (hk : k ≠ 0) (hno : hasB ps.length k = false) (J Jx : List Int → World → Prop)
    (W : World) (hBb : W.cell? ⟨Bb, 0, none⟩ = some (.int .i64 k)) (hBt : W.cell? ⟨Bt, 0, none⟩ = some (.pointer (some ⟨b, o, none⟩)))
    (hpv : W.cell? ⟨b, o, none⟩ = some (.slice (some ⟨g, 0, none⟩) ps.length cap)) (h0 : J [] W) :
    CallsIn Fence.wide n Try.prog 110 #[.func (.yield l) #[] #[], .pointer (some ⟨Bb, 0, none⟩), .pointer (some ⟨Bt, 0, none⟩)] W fun e W' => (∃ v, e = .returned v) ∧
      ((∃ ys, ys = [] ∧ J ys W') ∨ (∃ pre : List Int, pre <+: [] ∧ Jx pre W')) := by
  have hfn : Fence.wide.fn 61 := trivial
  have hkb : (k != 0) = true := by simpa using hk
  refine callsIn_of_wp Try.func110 rfl trivial ?_ rfl
  simp only [Try.ntmps110, List.size_toArray, List.length_cons, List.length_nil, Nat.reduceAdd, Nat.reduceSub, Array.replicate_succ, Array.replicate_zero, List.push_toArray, List.append_toArray, List.nil_append, List.cons_append]
  gi_wp2
  gi_loopw [4] (fun p wr => p = .int .i64 k ∧ wr = W) (fun _ _ => 0)
  case atStart => exact ⟨rfl, rfl⟩
  case round =>
    obtain ⟨rfl, rfl⟩ := hrel
    gi_wp2_with (refine ⟨fun h => (by cases h), ?_⟩; gi_at_call 61; refine (callsIn_wide.2 (has_at b o (some ⟨g, 0, none⟩) ps.length cap k _ hpv)).mono ?_; rintro e w' ⟨rfl, rfl⟩; rw [hno])
    go_end0
    exact ⟨⟨_, rfl⟩, .inl ⟨[], rfl, h0⟩⟩
theorem ahead_none (n Bb Bt n₀ b o g cap : Nat) (ps : List Int) (k : Int) (hk : k ≠ 0) (hno : hasB ps.length k = false) (w : World) (hBb : Bb < n₀) (hlt : Bt < n₀) (hlb : b < n₀) (hn : n₀ ≤ w.heap.size)
    (hb : w.cell? ⟨Bb, 0, none⟩ = some (.int .i64 k)) (ht : w.cell? ⟨Bt, 0, none⟩ = some (.pointer (some ⟨b, o, none⟩))) (hA : w.cell? ⟨b, o, none⟩ = some (.slice (some ⟨g, 0, none⟩) ps.length cap)) :
    SeqStopsK Fence.wide n Try.prog 110 #[.pointer (some ⟨Bb, 0, none⟩), .pointer (some ⟨Bt, 0, none⟩)] (fun x : Int => #[Value.int .i64 x]) (Below n₀) (fun ys => ys = []) (fun pre => pre <+: []) 0 w :=
  fun l J Jx W hW _ _ _ h0 =>
    ahead1_out n l Bb Bt b o g cap ps k hk hno J Jx W (((hW.mono hn).cell (p := ⟨Bb, 0, none⟩) hBb).trans hb) (((hW.mono hn).cell (p := ⟨Bt, 0, none⟩) hlt).trans ht) (((hW.mono hn).cell (p := ⟨b, o, none⟩) hlb).trans hA) h0

set_option maxRecDepth 100000 in
set_option maxHeartbeats 2000000 in
theorem isAhead_out (b o g cap : Nat) (ps : List Int) (a k : Int) (hk : k ≠ 0) (hno : hasB ps.length k = false) (w : World) (hA : TreeAt w b o g cap ps) :
    Calls Try.prog 82 #[.pointer (some ⟨b, o, none⟩), .int .i64 a, .int .i64 k] w fun e w' => e = .returned (.bool false) ∧ Below w.heap.size w w' := by
  have hfn : Fence.wide.fn 93 := trivial
  have hlb := hA.lt_b
  refine (callsIn_wide (n := 3)).1 ?_
  refine callsIn_of_wp_marks Try.func82 rfl trivial ?_ rfl
  simp only [Try.ntmps82, List.size_toArray, List.length_cons, List.length_nil, Nat.reduceAdd, Nat.reduceSub, Array.replicate_succ, Array.replicate_zero, List.push_toArray, List.append_toArray, List.nil_append, List.cons_append]
  gi_wp2_with (gi_at_call 93; refine (callsIn_wide.2 (ahead_makes b o k _)).mono ?_; rintro e w' ⟨rfl, rfl⟩)
  try simp only [World.size_alloc]
  obtain ⟨W0, hW0⟩ : ∃ W0, (((w.alloc (.cells #[.int .i64 a] 3)).alloc (.cells #[.bool false] 4)).alloc (.cells #[.pointer (some ⟨b, o, none⟩)] 116)).alloc (.cells #[.int .i64 k] 3) = W0 := ⟨_, rfl⟩
  have hs0 : W0.heap.size = w.heap.size + 1 + 1 + 1 + 1 := by rw [← hW0]; simp [go_sem]
  have c0 : W0.cell? ⟨w.heap.size, 0, none⟩ = some (.int .i64 a) := by rw [← hW0]; simp [go_sem]
  have c1 : W0.cell? ⟨w.heap.size + 1, 0, none⟩ = some (.bool false) ∧ W0.frozen? ⟨w.heap.size + 1, 0, none⟩ = false := by rw [← hW0]; simp [go_sem]
  have c2 : W0.cell? ⟨w.heap.size + 1 + 1, 0, none⟩ = some (.pointer (some ⟨b, o, none⟩)) := by rw [← hW0]; simp [go_sem]
  have c3 : W0.cell? ⟨w.heap.size + 1 + 1 + 1, 0, none⟩ = some (.int .i64 k) := by rw [← hW0]; simp [go_sem]
  have hB0 : Below w.heap.size w W0 := by rw [← hW0]; exact ((((Below.refl _ w).alloc (Nat.le_refl _) _).alloc (by simp) _).alloc (by simp; omega) _).alloc (by simp; omega) _
  have hA0 : W0.cell? ⟨b, o, none⟩ = some (.slice (some ⟨g, 0, none⟩) ps.length cap) := (hB0.cell (p := ⟨b, o, none⟩) hlb).trans hA.pv
  rw [hW0]
  clear hW0
  refine wpIn_rangeFunc_ownF rfl (by omega) (gf := 110) (lb := #[.pointer (some ⟨w.heap.size + 1 + 1 + 1, 0, none⟩), .pointer (some ⟨w.heap.size + 1 + 1, 0, none⟩)]) rfl trivial (enters_of Try.func110 (by kernel_rfl) rfl)
    (ahead_none 2 (w.heap.size + 1 + 1 + 1) (w.heap.size + 1 + 1) W0.heap.size b o g cap ps k hk hno W0 (by omega) (by omega) (by omega) (Nat.le_refl _) c3 c2 hA0) belowK_t (belowK_b (Nat.le_refl _)) (Below.refl _ _) (fun _ => rfl)
    (fun pre W => (W.cell? ⟨w.heap.size + 1, 0, none⟩ = some (.bool false) ∧ W.frozen? ⟨w.heap.size + 1, 0, none⟩ = false) ∧ Below w.heap.size w W)
    (fun c pre W => False ∧ Below w.heap.size w W)
    (OwnFrom.and (Own.from (fun s A B row hs hg hr => ⟨cell_kept hs.1 hg hr, (frozen_kept hs.1 hg hr).trans hs.2⟩) _) (ownFrom_below (Nat.le_refl _) (by omega)))
    (fun c => OwnFrom.and (Own.from (fun s A B row hs hg hr => hs) _) (ownFrom_below (Nat.le_refl _) (by omega)))
    ⟨⟨c1.1, c1.2⟩, hB0⟩
    (fun x => { tmps := #[.pointer (some ⟨b, o, none⟩), .int .i64 a, .int .i64 k, undef, .pointer (some ⟨w.heap.size, 0, none⟩), undef, .pointer (some ⟨w.heap.size + 1, 0, none⟩), .int .i64 x, .pointer (some ⟨b, o, none⟩), .int .i64 k, .func (.func 110) #[] #[.pointer (some ⟨w.heap.size + 1 + 1 + 1, 0, none⟩), .pointer (some ⟨w.heap.size + 1 + 1, 0, none⟩)], .int .i64 x, undef, undef, undef], defers := [] }) ?assign ?body ?done ?stop
  case assign =>
    intro l x W K hK
    gi_wp2
    exact hK
  case body =>
    rintro l pre x W _ hpl
    omega
  case done =>
    rintro D ys W hD rfl ⟨⟨hcr, hfr⟩, hB⟩ hK
    gi_wp2
    have hK' := (KeepsOthers.setCell W ⟨w.heap.size + 1, 0, none⟩ (.bool false)).same D _ hK rfl
    refine ⟨by simp, .inl ⟨_, _, rfl, run_takeDeferred hK', ?_⟩⟩
    have hc5 := cell_kept (World.cell?_setCell_same' W ⟨w.heap.size + 1, 0, none⟩ (.bool false) (by rw [hcr]; rfl)) (grownBy_putObj' _ D (.deferred none)) (fun r e => by cases e; exact ⟨_, hK', rfl⟩)
    refine ⟨.bool false, ?_, rfl, (hB.setCell (p := ⟨w.heap.size + 1, 0, none⟩) (by simp) _).trans (belowK_b (w := w) (Nat.le_refl _) _ D _ _ (by omega) hK' rfl rfl)⟩
    simp [results, Try.f82, go_sem, hc5]
  case stop =>
    rintro D c pre W hD hpre ⟨hfl, hB⟩ hK
    exact hfl.elim

theorem isAhead_any (b o g cap : Nat) (ps : List Int) (hT : Tree ps) (a k : Int) (w : World) (hA : TreeAt w b o g cap ps) :
    Calls Try.prog 82 #[.pointer (some ⟨b, o, none⟩), .int .i64 a, .int .i64 k] w fun e w' => e = .returned (.bool (inB ps k && ahead ps a k)) ∧ Below w.heap.size w w' := by
  by_cases hin : 0 ≤ k ∧ k < ps.length
  · have q : inB ps k = true := by unfold inB; simpa using hin
    rw [q, Bool.true_and]
    exact isAhead_at b o g cap ps hT a k hin.1 (by omega) w hA
  · have q : inB ps k = false := by unfold inB; simp; omega
    rw [q, Bool.false_and]
    have hp := hT.1
    exact isAhead_out b o g cap ps a k (by omega) (by unfold hasB; simp; omega) w hA

set_option maxRecDepth 100000 in
set_option maxHeartbeats 1000000 in
theorem cloneTree_at (g o c : Nat) (xs : List Int) (w : World) (hx : ∀ j, j < xs.length → w.cell? ⟨g, o + j, none⟩ = some (I64 (xs[j]?.getD 0))) (h0 : 0 < xs.length) (hl : xs.length ≤ 40) :
    Calls Try.prog 54 #[.slice (some ⟨g, o, none⟩) xs.length c] w fun e w' => ∃ g1 cap, e = .returned (.slice (some ⟨g1, 0, none⟩) xs.length cap) ∧
      w'.ownsRow 0 3 1 (.slice (some ⟨g1, 0, none⟩) xs.length cap) xs.length (xs.map I64) ∧ w.heap.size ≤ g1 ∧ Below w.heap.size w w' := by
  obtain ⟨i0, hi, hz0, hz1, hz2⟩ := info_parts info_int
  have h63 : Hid (0 + xs.length ≤ maxLen) := by show _ ≤ _; unfold maxLen; omega
  have hgl : g < w.heap.size := World.block_lt_of_cell? w _ (hx 0 h0)
  have hnews : ∀ j u, (xs.map I64)[j]? = some u → (w.alloc (.cells #[] 3)).cell? ((⟨g, o, none⟩ : Addr).add j) = some u := fun j u hu => by
    rw [add_none]
    obtain ⟨x, hxj, rfl⟩ := by simpa using hu
    have hlt : j < xs.length := (List.getElem?_eq_some_iff.1 hxj).1
    refine (Chg.alloc (Chg.refl (fun _ => False) w) _).cell ?_ (fun hf => hf)
    rw [hx j hlt, hxj]; rfl
  have hown0 : (w.alloc (.cells #[] 3)).ownsRow 0 3 1 (.slice (some ⟨w.heap.size, 0, none⟩) 0 0) 0 [] := World.ownsRow_lit w #[] 0 (Nat.zero_le _) (Nat.zero_le _) (by simp)
  clear hx
  have q22 : ∀ (w : World) (a : Option Addr) (n c : Nat), (binOp .eql 22 (.slice a n c) (.slice none 0 0)).run Try.prog w = .ok (.bool a.isNone) w := fun w a n c => Lib.run_eql_slice_nil w _ _ a n c 0 0 Try.underlying22
  go_enter Try.func54, Try.ntmps54
  go_wp2_with (at_builtin; refine wpList_append_lies _ (by rfl) _ _ _ (by rfl) 0 3 i0 (I64 0) 1 8 Try.underlying22 hi hz0 hz1 hz2 rfl (by omega) (.slice (some ⟨w.heap.size, 0, none⟩) 0 0) 0 [] (by rfl) hown0 ⟨g, o, none⟩ xs.length c (xs.map I64) (by rfl) (by simp) hnews (by simp [Value.oneCell']) h0 h63.out (by omega) (Nat.zero_le _) (w.heap.size + 1) (by simp) ?_; intro g1 cap1 w7 hown7 hgrow7 hat7 hlt7)
  go_ret
  simp only [Nat.zero_add, List.nil_append] at hown7
  refine ⟨g1, cap1, by simp, hown7, ?_, ?_⟩
  · rcases hat7 with h | h
    · simp [Value.ownBlock] at h; omega
    · omega
  · exact ((Below.refl _ w).alloc (Nat.le_refl _) _).grown hgrow7 (by simp) (fun k e => by simp [Value.ownBlock] at e; omega)

/-- Of, of voters that lie anywhere. -/
theorem ofI_at (g c : Nat) (pl : Option Addr) (cl : Nat) (ws l : List Int) (w : World) (hx : ∀ j, j < ws.length → w.cell? ⟨g, j, none⟩ = some (I64 (ws[j]?.getD 0))) (hW : OkWs ws) (hr : IntsAt w pl l) (hl : ∀ v ∈ l, 0 ≤ v ∧ v < ws.length) (hl2 : l.length ≤ 300) :
    Calls Try.prog 106 #[.slice (some ⟨g, 0, none⟩) ws.length c, .slice pl l.length cl] w fun e w' => e = .returned (.int .i64 (wSum ws l)) ∧ w' = w := by
  have HX : Hid (∀ j, j < ws.length → w.cell? ⟨g, j, none⟩ = some (I64 (ws[j]?.getD 0))) := hx
  clear hx
  have HL : Hid (∀ v ∈ l, 0 ≤ v ∧ v < ws.length) := hl
  clear hl
  have hle := hW.le
  go_enter Try.func106, Try.ntmps106
  go_wp2
  go_loop [5, 10] (fun t i => ∃ (k : Nat) (n : Int), k ≤ l.length ∧ i = .int .i64 k ∧ t = .int .i64 n ∧ Hid (n = wSum ws (l.take k)) ∧ 0 ≤ n ∧ n ≤ 100 * k) (fun _ i => l.length - (intOf i).toNat)
  case atStart => exact ⟨0, 0, by omega, rfl, rfl, by simp [Hid, wSum, sumI_nil], by omega, by omega⟩
  case round =>
    obtain ⟨k, n, hk, rfl, rfl, hn, hn0, hn1⟩ := hrel
    by_cases hlt : k < l.length
    · have hlt' : (k : Int) < (l.length : Int) := by omega
      rcases hr with rfl | ⟨gl, ol, rfl, hcl⟩
      · simp at hlt
      obtain ⟨y, hy⟩ : ∃ y, l[k]? = some y := ⟨_, List.getElem?_eq_getElem hlt⟩
      have hc : w.cell? ⟨gl, ol + k, none⟩ = some (I64 y) := by have := hcl k hlt; rw [hy] at this; exact this
      obtain ⟨y0, y1⟩ := HL.out y (List.mem_of_getElem? hy)
      obtain ⟨x, hxk⟩ : ∃ x, wAt ws y = x := ⟨_, rfl⟩
      have hcx : w.cell? ⟨g, y.toNat, none⟩ = some (I64 x) := by rw [← hxk]; exact HX.out _ (by omega)
      have hb := hW.wAt (v := y) (by omega)
      rw [hxk] at hb
      have HN : Hid (n + x = wSum ws (l.take (k + 1))) := by show _ = _; rw [wSum_take _ _ _ _ hy, hn.out, hxk]
      clear hxk hcl hy
      go_wp2
      go_round
      case rel => exact ⟨k + 1, n + x, by omega, by go_num, by go_num, HN, by omega, by omega⟩
      case measure => simp [intOf]; omega
    · go_wp2
      go_ret
      have hn' := hn.out
      rw [List.take_of_length_le (by omega)] at hn'
      exact ⟨by rw [← hn']; rfl, rfl⟩

theorem wSum_le {ws l : List Int} (hW : OkWs ws) (hl : ∀ v ∈ l, 0 ≤ v ∧ v < ws.length) (hn : l.length ≤ 12) : 0 ≤ wSum ws l ∧ wSum ws l ≤ 1200 := by
  have h1 := sumI_bounds (l := l.map (wAt ws)) (m := 100) (fun z hz => by
    simp only [List.mem_map] at hz
    obtain ⟨v, hv, rfl⟩ := hz
    have h2 := hl v hv
    have := hW.wAt (v := v) (by omega)
    omega)
  unfold wSum
  simp only [List.length_map] at h1
  omega

set_option maxRecDepth 100000 in
set_option maxHeartbeats 2000000 in
theorem pEnough_at (g c : Nat) (pl : Option Addr) (cl : Nat) (ws l : List Int) (w : World) (hx : ∀ j, j < ws.length → w.cell? ⟨g, j, none⟩ = some (I64 (ws[j]?.getD 0))) (hW : OkWs ws) (hr : IntsAt w pl l) (hm : l.length ≤ maxLen) :
    Calls Try.prog 108 #[.slice (some ⟨g, 0, none⟩) ws.length c, .slice pl l.length cl] w fun e w' => e = .returned (.bool (riseB ws.length 0 l && enB ws l)) ∧ w' = w := by
  have HX : Hid (∀ j, j < ws.length → w.cell? ⟨g, j, none⟩ = some (I64 (ws[j]?.getD 0))) := hx
  clear hx
  have hle := hW.le
  have hml : l.length ≤ 9223372036854775807 := by unfold maxLen at hm; omega
  clear hm
  go_enter Try.func108, Try.ntmps108
  go_wp2
  go_loop [5, 10] (fun t i => ∃ k : Nat, k ≤ l.length ∧ i = .int .i64 k ∧ t = .int .i64 (lastO 0 (l.take k)) ∧ 0 ≤ lastO 0 (l.take k) ∧ lastO 0 (l.take k) ≤ 13 ∧ Hid (riseB ws.length 0 (l.take k) = true)) (fun _ i => l.length - (intOf i).toNat)
  case atStart => exact ⟨0, by omega, rfl, rfl, by simp [lastO], by simp [lastO], rfl⟩
  case round =>
    obtain ⟨k, hk, rfl, rfl, h0, h13, HR⟩ := hrel
    by_cases hlt : k < l.length
    · have hlt' : (k : Int) < (l.length : Int) := by omega
      rcases hr with rfl | ⟨gl, ol, rfl, hcl⟩
      · simp at hlt
      obtain ⟨y, hy⟩ : ∃ y, l[k]? = some y := ⟨_, List.getElem?_eq_getElem hlt⟩
      have hc : w.cell? ⟨gl, ol + k, none⟩ = some (I64 y) := by have := hcl k hlt; rw [hy] at this; exact this
      obtain ⟨t1, t2⟩ := rise_take (n := ws.length) hy 0
      rw [HR.out, Bool.true_and] at t1
      have HF : Hid (riseB ws.length 0 (l.take (k + 1)) = false → (riseB ws.length 0 l && enB ws l) = false) := fun hf => by rw [riseB_pre hf, Bool.false_and]
      obtain ⟨m, hmm⟩ : ∃ m, lastO 0 (l.take k) = m := ⟨_, rfl⟩
      rw [hmm] at t1 h0 h13 ⊢
      have HT1 : Hid _ := t1
      have HT2 : Hid _ := t2
      clear hcl hy t1 t2 hmm HR
      by_cases c1 : y < m
      · have HB : Hid ((riseB ws.length 0 l && enB ws l) = false) := HF.out (by rw [HT1.out]; simp; omega)
        clear HT1 HF HT2
        go_wp2
        go_ret
        exact ⟨by rw [HB.out]; rfl, rfl⟩
      · cases hh : hasB ws.length y
        · have HB : Hid ((riseB ws.length 0 l && enB ws l) = false) := HF.out (by rw [HT1.out]; simp [hasB] at hh; simp; omega)
          clear HT1 HF HT2
          go_wp2_with (go_at_call 81; refine (whas_at _ _ _ _ _).mono ?_; rintro e w' ⟨rfl, rfl⟩; rw [hh])
          go_ret
          exact ⟨by rw [HB.out]; rfl, rfl⟩
        · have hyb : 0 ≤ y ∧ y < ws.length := by simpa [hasB] using hh
          have HB : Hid (riseB ws.length 0 (l.take (k + 1)) = true) := by show _ = _; rw [HT1.out]; simp; omega
          clear HT1 HF
          go_wp2_with (go_at_call 81; refine (whas_at _ _ _ _ _).mono ?_; rintro e w' ⟨rfl, rfl⟩; rw [hh])
          go_round
          case rel => exact ⟨k + 1, by omega, by go_num, by rw [HT2.out], by rw [HT2.out]; omega, by rw [HT2.out]; omega, HB⟩
          case measure => simp [intOf]; omega
    · have hri : riseB ws.length 0 l = true := by have := HR.out; rw [List.take_of_length_le (by omega)] at this; exact this
      have hal := (riseB_iff.1 hri).1
      have hln := rise_len hri
      have hof := ofI_at g c pl cl ws l w HX.out hW hr hal (by omega)
      have hsb := wSum_le hW hal (by omega)
      have hen := enoughW_at g c ws (wSum ws l) w HX.out hW hsb.1 (by omega)
      have HRI : Hid _ := hri
      obtain ⟨T, hTT⟩ : ∃ T, wSum ws l = T := ⟨_, rfl⟩
      rw [hTT] at hof hen
      have HT : Hid (wSum ws l = T) := hTT
      generalize lastO 0 (l.take k) = m
      clear hri hal hTT HR
      go_wp2_with fail
      refine hof.mono ?_
      rintro e w1 ⟨rfl, rfl⟩
      clear hof
      go_wp2_with fail
      refine hen.mono ?_
      rintro e w1 ⟨rfl, rfl⟩
      go_wp2
      go_ret
      exact ⟨by rw [HRI.out, Bool.true_and]; unfold enB; rw [HT.out]; rfl, rfl⟩
end Go.Proofs.Ytgebcnnenhgkcaa
