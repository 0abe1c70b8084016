/- Height, spanOf, isAround, Kind: in which way nobody may give two votes. -/
import Derived.Test.YtgebcnnenhgkcaaTreeC
import Derived.Test.YtgebcnnenhgkcaaHeld
import Derived.Test.YtgebcnnenhgkcaaPureB
import Derived.Test.YtgebcnnenhgkcaaVotesA
import Derived.Deep.RegionHeld3
namespace Go.Proofs.Ytgebcnnenhgkcaa
open Go.RowKit Go.Shelf
attribute [local go_sem] Oper.semAt_some

theorem ht_bounds {ps : List Int} (hT : Tree ps) {b : Int} (h0 : 0 ≤ b) (h1 : b.toNat < ps.length) : 0 ≤ ht ps b ∧ ht ps b ≤ b := by
  have : ∀ (n : Nat) (b : Int), 0 ≤ b → b.toNat < ps.length → b.toNat ≤ n → (up ps b).length ≤ b.toNat := by
    intro n
    induction n with
    | zero =>
      intro b h0 hl hn
      have : b = 0 := by omega
      subst this; simp [up_zero]
    | succ n ih =>
      intro b h0 hl hn
      by_cases hb : b = 0
      · subst hb; simp [up_zero]
      · have hp := hT.2.2.2 b.toNat (by omega) hl
        rw [up_step hT (by omega) hl, List.length_cons]
        have := ih _ hp.1 (by omega) (by omega)
        omega
  have := this b.toNat b h0 h1 (Nat.le_refl _)
  unfold ht
  omega

set_option maxRecDepth 100000 in
set_option maxHeartbeats 2000000 in
theorem height_at (b o g cap : Nat) (ps : List Int) (hT : Tree ps) (k : Int) (hk0 : 0 ≤ k) (hk1 : k.toNat < ps.length) (w : World) (hA : TreeAt w b o g cap ps) :
    Calls Try.prog 125 #[.pointer (some ⟨b, o, none⟩), .int .i64 k] w fun e w' => e = .returned (.int .i64 (ht ps k)) ∧ Below w.heap.size w w' := by
  have hfn : Fence.wide.fn 93 := trivial
  have hmix : Try.prog.follows .mixedOrders = true := by kernel_rfl
  have hlb := hA.lt_b
  have hlg := hA.lt_g hT.1
  refine (callsIn_wide (n := 3)).1 ?_
  refine callsIn_of_wp_marks Try.func125 rfl trivial ?_ rfl
  simp only [Try.ntmps125, List.size_toArray, List.length_cons, List.length_nil, Nat.reduceAdd, Nat.reduceSub, Array.replicate_succ, Array.replicate_zero, List.push_toArray, List.append_toArray, List.nil_append, List.cons_append]
  gi_wp2_with (gi_at_call 93; refine (callsIn_wide.2 (ahead_makes b o k _)).mono ?_; rintro e w' ⟨rfl, rfl⟩)
  try simp only [World.size_alloc]
  obtain ⟨W0, hW0⟩ : ∃ W0, ((w.alloc (.cells #[.int .i64 0] 3)).alloc (.cells #[.pointer (some ⟨b, o, none⟩)] 116)).alloc (.cells #[.int .i64 k] 3) = W0 := ⟨_, rfl⟩
  have hs0 : W0.heap.size = w.heap.size + 1 + 1 + 1 := by rw [← hW0]; simp [go_sem]
  have c1 : W0.cell? ⟨w.heap.size, 0, none⟩ = some (.int .i64 0) ∧ W0.frozen? ⟨w.heap.size, 0, none⟩ = false := by rw [← hW0]; simp [go_sem]
  have c2 : W0.cell? ⟨w.heap.size + 1, 0, none⟩ = some (.pointer (some ⟨b, o, none⟩)) := by rw [← hW0]; simp [go_sem]
  have c3 : W0.cell? ⟨w.heap.size + 1 + 1, 0, none⟩ = some (.int .i64 k) := by rw [← hW0]; simp [go_sem]
  have hB0 : Below w.heap.size w W0 := by rw [← hW0]; exact (((Below.refl _ w).alloc (Nat.le_refl _) _).alloc (by simp) _).alloc (by simp; omega) _
  rw [hW0]
  clear hW0
  have hlen : ps.length ≤ 40 := hT.2.1
  have hup : ((up ps k).length : Int) ≤ k := (ht_bounds hT hk0 hk1).2
  refine wpIn_rangeFunc_ownF rfl (by omega) (gf := 110) (lb := #[.pointer (some ⟨w.heap.size + 1 + 1, 0, none⟩), .pointer (some ⟨w.heap.size + 1, 0, none⟩)]) rfl trivial (enters_of Try.func110 (by kernel_rfl) rfl)
    (ahead_stopsC (fun k => k = w.heap.size ∨ W0.heap.size ≤ k) 2 (w.heap.size + 1 + 1) (w.heap.size + 1) b o g cap ps hT k hk0 hk1 W0 (by omega) (by omega) (by omega) c3 c2 (hA.below hB0 hlb hlg)) (fun h k => h.trans k) (chgK_b (fun k hk => .inr hk)) (Below.refl _ _) (fun _ => rfl)
    (fun pre W => (W.cell? ⟨w.heap.size, 0, none⟩ = some (.int .i64 (pre.length : Nat)) ∧ W.frozen? ⟨w.heap.size, 0, none⟩ = false) ∧ Below w.heap.size w W)
    (fun c pre W => False ∧ Below w.heap.size w W)
    (OwnFrom.and (Own.from (fun s A B row hs hg hr => ⟨cell_kept hs.1 hg hr, (frozen_kept hs.1 hg hr).trans hs.2⟩) _) (ownFrom_below (Nat.le_refl _) (by omega)))
    (fun c => OwnFrom.and (Own.from (fun s A B row hs hg hr => hs) _) (ownFrom_below (Nat.le_refl _) (by omega)))
    ⟨⟨c1.1, c1.2⟩, hB0⟩
    (fun x => { tmps := #[.pointer (some ⟨b, o, none⟩), .int .i64 k, undef, undef, .int .i64 0, .pointer (some ⟨w.heap.size, 0, none⟩), .pointer (some ⟨b, o, none⟩), .int .i64 k, .func (.func 110) #[] #[.pointer (some ⟨w.heap.size + 1 + 1, 0, none⟩), .pointer (some ⟨w.heap.size + 1, 0, none⟩)], .int .i64 x.1, undef, undef, undef], defers := [] }) ?assign ?body ?done ?stop
  case assign =>
    intro l x W K hK
    gi_wp2
    simpa using hK
  case body =>
    rintro l pre x W ⟨⟨hcr, hfr⟩, hB⟩ hpl
    have hwr : IntKind.i64.wrap ((pre.length : Int) + 1) = (pre.length : Int) + 1 := Go.IntWalk.i64_in _ (by omega)
    gi_wp2
    refine ⟨KeepsOthers.setCell _ _ _, (Chg.refl _ _).setCell (p := ⟨w.heap.size, 0, none⟩) (.inl (.inl rfl)) _, ⟨?_, ?_⟩, hB.setCell (p := ⟨w.heap.size, 0, none⟩) (Nat.le_refl _) _⟩
    · rw [World.cell?_setCell_same' _ _ _ (by rw [hcr]; rfl)]; simp
    · simpa using hfr
  case done =>
    rintro D ys W hD hys ⟨⟨hcr, hfr⟩, hB⟩ hK
    gi_wp2
    refine ⟨by simp, .inl ⟨_, _, rfl, run_takeDeferred hK, ?_⟩⟩
    refine ⟨_, results_tmp rfl _ _ _, ?_, hB.trans (belowK_b (w := w) (Nat.le_refl _) _ D _ _ (by omega) hK rfl rfl)⟩
    show Ending.returned (Value.int .i64 _) = _
    unfold ht
    rw [← hys]; simp
  case stop =>
    rintro D c pre W hD hpre ⟨hfl, hB⟩ hK
    exact hfl.elim

theorem around_at (s1 t1 s2 t2 : Int) (w : World) :
    Calls Try.prog 121 #[.agg #[I64 s1, I64 t1], .agg #[I64 s2, I64 t2]] w fun e w' => e = .returned (.bool (decide (s1 < s2) && decide (t1 > t2))) ∧ Below w.heap.size w w' := by
  have hB : Below w.heap.size w ((w.alloc (.cells #[I64 s1, I64 t1] 145)).alloc (.cells #[I64 s2, I64 t2] 145)) := ((Below.refl _ w).alloc (Nat.le_refl _) _).alloc (by simp) _
  by_cases h : s1 < s2
  · have q : decide (s1 < s2) = true := by simpa using h
    go_enter Try.func121, Try.ntmps121
    go_wp2
    go_ret
    exact ⟨by first | rfl | (rw [q]; rfl), hB⟩
  · have q : decide (s1 < s2) = false := by simpa using h
    go_enter Try.func121, Try.ntmps121
    go_wp2
    go_ret
    exact ⟨by first | rfl | (rw [q]; rfl), hB⟩

/-- The blocks of a vote are there. -/
structure OkB (ps : List Int) (x : Vt) : Prop where
  s0 : 0 ≤ x.s
  s1 : x.s.toNat < ps.length
  t0 : 0 ≤ x.t
  t1 : x.t.toNat < ps.length

set_option maxHeartbeats 1000000 in
theorem spanOf_at (b o g cap : Nat) (ps : List Int) (hT : Tree ps) (x : Vt) (hx : OkB ps x) (w : World) (hA : TreeAt w b o g cap ps) :
    Calls Try.prog 120 #[.pointer (some ⟨b, o, none⟩), x.val] w fun e w' => e = .returned (.agg #[I64 (ht ps x.s), I64 (ht ps x.t)]) ∧ Below w.heap.size w w' := by
  have hlb := hA.lt_b
  have hlg := hA.lt_g hT.1
  go_enter Try.func120, Try.ntmps120
  go_wp2_with fail
  obtain ⟨W0, hW0⟩ : ∃ W0, (w.alloc (.cells #[I64 x.v, I64 x.s, I64 x.t] 70)).alloc (.cells #[I64 0, I64 0] 145) = W0 := ⟨_, rfl⟩
  have hz0 : W0.heap.size = w.heap.size + 1 + 1 := by rw [← hW0]; simp
  have hB0 : Below w.heap.size w W0 := by rw [← hW0]; exact ((Below.refl _ w).alloc (Nat.le_refl _) _).alloc (by simp) _
  have d1 : W0.cell? ⟨w.heap.size, 1, none⟩ = some (I64 x.s) := by rw [← hW0]; simp [go_sem]
  have d2 : W0.cell? ⟨w.heap.size, 2, none⟩ = some (I64 x.t) := by rw [← hW0]; simp [go_sem]
  have d3 : W0.heap[w.heap.size + 1]? = some (.cells #[I64 0, I64 0] 145 (0, 0)) := by rw [← hW0]; have := heap_alloc_new (w.alloc (.cells #[I64 x.v, I64 x.s, I64 x.t] 70)) (.cells #[I64 0, I64 0] 145); simpa using this
  rw [hW0]
  clear hW0
  refine wp_region_held_drew (S := fun w' => w'.cell? ⟨w.heap.size, 1, none⟩ = some (I64 x.s) ∧ w'.cell? ⟨w.heap.size, 2, none⟩ = some (I64 x.t)) (by kernel_rfl) ⟨d1, d2⟩ (fun hHeld => ?_)
  refine takeH (i := 0) (v := ?vv1) rfl (by kernel_rfl) (by kernel_rfl) (by kernel_rfl) (fun _ _ _ h => h) (Or.inl ⟨by rfl, ?hy1⟩) (by assumption) ?rest1
  case hy1 => (intro w hSw; (try dsimp only at hSw); go_simp; try with_reducible rfl)
  try simp only [Act.put, List.setIfInBounds_toArray, List.set_cons_zero, List.set_cons_succ]
  refine takeH (i := 1) (v := ?vv2) rfl (by kernel_rfl) (by kernel_rfl) (by kernel_rfl) (fun _ _ _ h => h) (Or.inl ⟨by rfl, ?hy2⟩) (by assumption) ?rest2
  case hy2 => (intro w hSw; (try dsimp only at hSw); go_simp; try with_reducible rfl)
  try simp only [Act.put, List.setIfInBounds_toArray, List.set_cons_zero, List.set_cons_succ]
  refine takeH (i := 2) (v := ?vv3) rfl (by kernel_rfl) (by kernel_rfl) (by kernel_rfl) (fun _ _ _ h => h) (Or.inl ⟨by rfl, ?hy3⟩) (by assumption) ?rest3
  case hy3 => (intro w hSw; (try dsimp only at hSw); go_simp; try with_reducible rfl)
  try simp only [Act.put, List.setIfInBounds_toArray, List.set_cons_zero, List.set_cons_succ]
  refine takeH (i := 4) (v := ?vv4) rfl (by kernel_rfl) (by kernel_rfl) (by kernel_rfl) (fun _ _ _ h => h) (Or.inl ⟨by rfl, ?hy4⟩) (by assumption) ?rest4
  case hy4 => (intro w hSw; (try dsimp only at hSw); go_simp; try with_reducible rfl)
  try simp only [Act.put, List.setIfInBounds_toArray, List.set_cons_zero, List.set_cons_succ]
  refine takeH (i := 5) (v := ?vv5) rfl (by kernel_rfl) (by kernel_rfl) (by kernel_rfl) (fun _ _ _ h => h) (Or.inl ⟨by rfl, ?hy5⟩) (by assumption) ?rest5
  case hy5 => (intro w hSw; (try dsimp only at hSw); go_simp; try with_reducible rfl)
  try simp only [Act.put, List.setIfInBounds_toArray, List.set_cons_zero, List.set_cons_succ]
  refine takeH (i := 6) (v := ?vv6) rfl (by kernel_rfl) (by kernel_rfl) (by kernel_rfl) (fun _ _ _ h => h) (Or.inl ⟨by rfl, ?hy6⟩) (by assumption) ?rest6
  case hy6 => (intro w hSw; (try dsimp only at hSw); go_simp; try with_reducible rfl)
  try simp only [Act.put, List.setIfInBounds_toArray, List.set_cons_zero, List.set_cons_succ]
  refine doneH (i := 3) rfl (by kernel_rfl) (by rfl) (fun K hK => ?_)
  have HK : Hid _ := hK
  clear hK
  go_simp
  refine (height_at b o g cap ps hT x.s hx.s0 hx.s1 _ ((hA.below hB0 hlb hlg).below (Below.refl W0.heap.size W0).drew (by omega) (by omega))).mono ?_
  rintro e W1 ⟨rfl, hB1⟩
  have hB1 : Below W0.heap.size W0 W1 := (Below.refl W0.heap.size W0).drew.trans hB1
  have e1 : W1.cell? ⟨w.heap.size, 1, none⟩ = some (I64 x.s) := (hB1.cell (p := ⟨w.heap.size, 1, none⟩) (by dsimp only; omega)).trans d1
  have e2 : W1.cell? ⟨w.heap.size, 2, none⟩ = some (I64 x.t) := (hB1.cell (p := ⟨w.heap.size, 2, none⟩) (by dsimp only; omega)).trans d2
  clear hHeld
  refine HK.out _ _ ⟨e1, e2⟩ (fun hHeld => ?_)
  clear HK K
  try simp only [Act.put, List.setIfInBounds_toArray, List.set_cons_zero, List.set_cons_succ]
  refine doneH (i := 7) rfl (by kernel_rfl) (by rfl) (fun K hK => ?_)
  have HK : Hid _ := hK
  clear hK
  go_simp
  have hz1 := hB1.size
  refine (height_at b o g cap ps hT x.t hx.t0 hx.t1 _ ((hA.below hB0 hlb hlg).below hB1 (by omega) (by omega))).mono ?_
  rintro e W2 ⟨rfl, hB2⟩
  have hB2 : Below W0.heap.size W0 W2 := hB1.trans (hB2.mono hz1)
  have e1 : W2.cell? ⟨w.heap.size, 1, none⟩ = some (I64 x.s) := (hB2.cell (p := ⟨w.heap.size, 1, none⟩) (by dsimp only; omega)).trans d1
  have e2 : W2.cell? ⟨w.heap.size, 2, none⟩ = some (I64 x.t) := (hB2.cell (p := ⟨w.heap.size, 2, none⟩) (by dsimp only; omega)).trans d2
  have d3' : W2.heap[w.heap.size + 1]? = some (.cells #[I64 0, I64 0] 145 (0, 0)) := (hB2.block _ (by omega)).trans d3
  have f0 : W2.cell? ⟨w.heap.size + 1, 0, none⟩ = some (I64 0) := by rw [cell_of_heap d3']; rfl
  have f1 : W2.cell? ⟨w.heap.size + 1, 1, none⟩ = some (I64 0) := by rw [cell_of_heap d3']; rfl
  have g0 : W2.frozen? ⟨w.heap.size + 1, 0, none⟩ = false := frozen_of_heap d3' 0
  have g1 : W2.frozen? ⟨w.heap.size + 1, 1, none⟩ = false := frozen_of_heap d3' 1
  clear hHeld
  refine HK.out _ _ ⟨e1, e2⟩ (fun hHeld => ?_)
  clear HK K
  try simp only [Act.put, List.setIfInBounds_toArray, List.set_cons_zero, List.set_cons_succ]
  refine takeH (i := 8) (v := ?vv7) rfl (by kernel_rfl) (by kernel_rfl) (by kernel_rfl) (fun _ _ _ h => h) (Or.inl ⟨by rfl, ?hy7⟩) (by assumption) ?rest7
  case hy7 => (intro w hSw; (try dsimp only at hSw); go_simp; try with_reducible rfl)
  try simp only [Act.put, List.setIfInBounds_toArray, List.set_cons_zero, List.set_cons_succ]
  refine doneH (i := 9) rfl (by kernel_rfl) (by rfl) (fun K hK => ?_)
  have HK : Hid _ := hK
  clear hK
  go_simp
  refine HK.out _ _ ?hs (fun hHeld2 => ?rs)
  case hs => exact ⟨by rw [World.cell?_setCell_other _ _ _ _ (by simp), World.cell?_setCell_other _ _ _ _ (by simp)]; exact e1, by rw [World.cell?_setCell_other _ _ _ _ (by simp), World.cell?_setCell_other _ _ _ _ (by simp)]; exact e2⟩
  clear HK K hHeld hHeld2
  try simp only [Act.put, List.setIfInBounds_toArray, List.set_cons_zero, List.set_cons_succ]
  refine wpAnyH_done (by kernel_rfl) ?_ _
  go_wp2
  have k0 : ((W2.setCell ⟨w.heap.size + 1, 0, none⟩ (.int .i64 (ht ps x.s))).setCell ⟨w.heap.size + 1, 1, none⟩ (.int .i64 (ht ps x.t))).cell? ⟨w.heap.size + 1, 0, none⟩ = some (.int .i64 (ht ps x.s)) := by
    rw [World.cell?_setCell_other _ _ _ _ (by simp)]; exact World.cell?_setCell_same' _ _ _ (by rw [f0]; rfl)
  have k1 : ((W2.setCell ⟨w.heap.size + 1, 0, none⟩ (.int .i64 (ht ps x.s))).setCell ⟨w.heap.size + 1, 1, none⟩ (.int .i64 (ht ps x.t))).cell? ⟨w.heap.size + 1, 1, none⟩ = some (.int .i64 (ht ps x.t)) :=
    World.cell?_setCell_same' _ _ _ (by rw [World.cell?_setCell_other _ _ _ _ (by simp), f1]; rfl)
  refine ⟨rfl, .agg #[I64 (ht ps x.s), I64 (ht ps x.t)], ?_, rfl, ?_⟩
  · simp [results, Try.f120, go_sem, k0, k1]
  · exact ((hB0.trans (hB2.mono (by omega))).setCell (p := ⟨w.heap.size + 1, 0, none⟩) (by dsimp only; omega) _).setCell (p := ⟨w.heap.size + 1, 1, none⟩) (by dsimp only; omega) _

end Go.Proofs.Ytgebcnnenhgkcaa
