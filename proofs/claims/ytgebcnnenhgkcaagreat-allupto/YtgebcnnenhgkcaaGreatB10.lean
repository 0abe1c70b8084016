/- pathTo: the fewest links by which a block is just, the root's first. -/
import Derived.Test.YtgebcnnenhgkcaaGreatB09
namespace Go.Proofs.YtgebcnnenhgkcaaGreat
open Go.RowKit Go.Shelf
attribute [local go_sem] Oper.semAt_some

def mkL (ws : List Int) (vs : List Vt) (q : Int × Int) : Lk := ⟨q.1, q.2, votersL ws.length vs q.1 q.2⟩
theorem walkS_length (lk : Int → Int → Bool) (D : Int → Int) (b : Int) (l : List Int) : (walkS lk D b l).2.length ≤ l.length := by
  unfold walkS
  suffices h : ∀ (q : Int × List (Int × Int)), (l.foldl (wStep lk D) q).2.length ≤ q.2.length + l.length by
    have := h (b, []); simpa using this
  induction l with
  | nil => intro q; simp
  | cons x r ih =>
    intro q
    rw [List.foldl_cons]
    have h1 := ih (wStep lk D q x)
    have h2 : (wStep lk D q x).2.length ≤ q.2.length + 1 := by unfold wStep; split <;> simp
    simp only [List.length_cons]
    omega
theorem row_grown {W W' : World} {row : Option Nat} {base : Nat} {e : TypeId} {size : Nat} {v : Value} {k : Nat} {xs : List Value} (h : W.ownsRow base e size v k xs) (hg : W.grownBy W' row) (hr : ∀ r, row = some r → ∃ o : Obj, W.heap[r]? = some o ∧ o.isCells = false) : W'.ownsRow base e size v k xs := by
  refine ⟨h.1, ?_⟩
  rcases h.2 with hn | ⟨g, cap, cur, rfl, hb, hgg, rest⟩
  · exact .inl hn
  · exact .inr ⟨g, cap, cur, rfl, hb, (grownBy_keeps_cells hg hr hgg rfl).trans hgg, rest⟩

theorem LinksAt.grown {W W' : World} {row : Option Nat} {base : Nat} {v : Value} {X : List LkV} (h : LinksAt W base v X) (hg : W.grownBy W' row) (hr : ∀ r, row = some r → ∃ o : Obj, W.heap[r]? = some o ∧ o.isCells = false) : LinksAt W' base v X :=
  ⟨row_grown h.row hg hr, fun x hx => row_grown (h.each x hx) hg hr, h.apart⟩

/-- What lies while the way up is gone: the path's row, and the target. -/
structure PSt (B n b gj cj len : Nat) (tgt : Int) (v : Value) (X : List LkV) (W : World) : Prop where
  c0 : W.cell? ⟨n, 0, none⟩ = some (.pointer (some ⟨b, 0, none⟩))
  c1 : W.cell? ⟨n + 1, 0, none⟩ = some (.slice (some ⟨gj, 0, none⟩) len cj)
  c2 : W.cell? ⟨n + 1 + 1, 0, none⟩ = some v
  z2 : W.frozen? ⟨n + 1 + 1, 0, none⟩ = false
  c3 : W.cell? ⟨n + 1 + 1 + 1, 0, none⟩ = some (.int .i64 tgt)
  z3 : W.frozen? ⟨n + 1 + 1 + 1, 0, none⟩ = false
  ln : LinksAt W B v X
  sz : B ≤ W.heap.size
theorem PSt.grown {B n b gj cj len : Nat} {tgt : Int} {v : Value} {X : List LkV} {W W' : World} {row : Option Nat} (h : PSt B n b gj cj len tgt v X W) (hg : W.grownBy W' row) (hr : ∀ r, row = some r → ∃ o : Obj, W.heap[r]? = some o ∧ o.isCells = false) : PSt B n b gj cj len tgt v X W' :=
  ⟨cell_kept h.c0 hg hr, cell_kept h.c1 hg hr, cell_kept h.c2 hg hr, (frozen_kept h.c2 hg hr).trans h.z2, cell_kept h.c3 hg hr, (frozen_kept h.c3 hg hr).trans h.z3, ⟨row_grown h.ln.row hg hr, fun x hx => row_grown (h.ln.each x hx) hg hr, h.ln.apart⟩, Nat.le_trans h.sz hg.size⟩
theorem PSt.below {B n b gj cj len : Nat} {tgt : Int} {v : Value} {X : List LkV} {W W' : World} (h : PSt B n b gj cj len tgt v X W) (hB : Below W.heap.size W W') : PSt B n b gj cj len tgt v X W' :=
  h.grown (row := none) ⟨hB.os, hB.tape, hB.output, hB.size, fun k hk _ => hB.block k hk⟩ (fun r e => by cases e)

set_option maxRecDepth 100000 in
set_option maxHeartbeats 16000000 in
theorem pathTo_at (b : Nat) (S : Nat → Prop) (m : Int) (ws ps st : List Int) (vs : List Vt) (wv pv vv : Value) (gj cj : Nat) (t : Int) (w : World) (h : CourtAt w b S m ws ps vs wv pv vv) (hT : Tree ps) (hW : OkWs ws) (hl : vs.length ≤ 300) (hO : OkV ws.length ps vs)
    (hst : ∀ j, j < ps.length → w.cell? ⟨gj, j, none⟩ = some (I64 (st[j]?.getD 0))) (hsb : ∀ j : Nat, 0 ≤ st[j]?.getD 0 ∧ st[j]?.getD 0 ≤ 40) (ht0 : 0 ≤ t) (ht1 : t.toNat < ps.length) :
    Calls Tryz.prog 97 #[.pointer (some ⟨b, 0, none⟩), .int .i64 t, .slice (some ⟨gj, 0, none⟩) ps.length cj] w fun e w' => (∃ v X, e = .returned v ∧ LinksAt w' w.heap.size v X ∧ X.map (fun x => x.1) = ((walkS (linkB ws vs) (stAt st) t (up ps t)).2.reverse).map (mkL ws vs)) ∧ Below w.heap.size w w' := by
  have hfn : Fence.wide.fn 121 := trivial
  have hfn2 : Fence.wide.fn 120 := trivial
  have hfn3 : Fence.wide.fn 98 := trivial
  have hfn4 : Fence.wide.fn 122 := trivial
  have hmix : Tryz.prog.follows .mixedOrders = true := by kernel_rfl
  obtain ⟨g0, cap0, rfl, _, _, hcs0, _⟩ := row_open h.prow hT.1
  obtain ⟨i0, hi, hz0, hz1, hz2⟩ := info_parts info_link
  have hA : TreeAt w b 3 g0 cap0 ps := ⟨h.c3, hcs0⟩
  have hlb := hA.lt_b
  have hlg := hA.lt_g hT.1
  have hw12 := hW.le
  have hT2 := hT.2.1
  have hgjl : gj < w.heap.size := World.block_lt_of_cell? w _ (hst 0 hT.1)
  have HST : Hid (∀ j, j < ps.length → w.cell? ⟨gj, j, none⟩ = some (I64 (st[j]?.getD 0))) := hst
  have HSB : Hid (∀ j : Nat, 0 ≤ st[j]?.getD 0 ∧ st[j]?.getD 0 ≤ 40) := hsb
  clear hst hsb hcs0
  refine (callsIn_wide (n := 6)).1 ?_
  refine callsIn_of_wp_marks Tryz.func97 rfl trivial ?_ rfl
  simp only [Tryz.ntmps97, List.size_toArray, List.length_cons, List.length_nil, Nat.reduceAdd, Nat.reduceSub, Array.replicate_succ, Array.replicate_zero, List.push_toArray, List.append_toArray, List.nil_append, List.cons_append]
  gi_wp2_with (gi_at_call 121; refine (callsIn_wide.2 (ahead_makes b 3 t _)).mono ?_; rintro e w' ⟨rfl, rfl⟩)
  try simp only [World.size_alloc]
  obtain ⟨W0, hW0⟩ : ∃ W0, ((((((w.alloc (.cells #[.pointer (some ⟨b, 0, none⟩)] 26)).alloc (.cells #[.slice (some ⟨gj, 0, none⟩) ps.length cj] 22)).alloc (.cells #[.slice none 0 0] 69)).alloc (.cells #[.int .i64 t] 3)).alloc (.cells #[.pointer (some ⟨b, 3, none⟩)] 147)).alloc (.cells #[.int .i64 t] 3)) = W0 := ⟨_, rfl⟩
  have hs0 : W0.heap.size = w.heap.size + 1 + 1 + 1 + 1 + 1 + 1 := by rw [← hW0]; simp
  have c0 : W0.cell? ⟨w.heap.size, 0, none⟩ = some (.pointer (some ⟨b, 0, none⟩)) := by rw [← hW0]; simp [go_sem]
  have c1 : W0.cell? ⟨w.heap.size + 1, 0, none⟩ = some (.slice (some ⟨gj, 0, none⟩) ps.length cj) := by rw [← hW0]; simp [go_sem]
  have c2 : W0.cell? ⟨w.heap.size + 1 + 1, 0, none⟩ = some (.slice none 0 0) ∧ W0.frozen? ⟨w.heap.size + 1 + 1, 0, none⟩ = false := by rw [← hW0]; simp [go_sem]
  have c3 : W0.cell? ⟨w.heap.size + 1 + 1 + 1, 0, none⟩ = some (.int .i64 t) ∧ W0.frozen? ⟨w.heap.size + 1 + 1 + 1, 0, none⟩ = false := by rw [← hW0]; simp [go_sem]
  have c4 : W0.cell? ⟨w.heap.size + 1 + 1 + 1 + 1, 0, none⟩ = some (.pointer (some ⟨b, 3, none⟩)) := by rw [← hW0]; simp [go_sem]
  have c5 : W0.cell? ⟨w.heap.size + 1 + 1 + 1 + 1 + 1, 0, none⟩ = some (.int .i64 t) := by rw [← hW0]; simp [go_sem]
  have hB0 : Below w.heap.size w W0 := by rw [← hW0]; exact (((((((Below.refl _ w).alloc (Nat.le_refl _) _).alloc (by simp) _).alloc (by simp; omega) _).alloc (by simp; omega) _).alloc (by simp; omega) _).alloc (by simp; omega) _)
  rw [hW0]
  clear hW0
  refine wpIn_rangeFunc_ownF rfl (by omega) (gf := 144) (lb := #[.pointer (some ⟨w.heap.size + 1 + 1 + 1 + 1 + 1, 0, none⟩), .pointer (some ⟨w.heap.size + 1 + 1 + 1 + 1, 0, none⟩)]) rfl trivial (enters_of Tryz.func144 (by kernel_rfl) rfl)
    (ahead_stopsC (fun k => k = w.heap.size + 1 + 1 ∨ k = w.heap.size + 1 + 1 + 1 ∨ W0.heap.size ≤ k) 5 (w.heap.size + 1 + 1 + 1 + 1 + 1) (w.heap.size + 1 + 1 + 1 + 1) b 3 g0 cap0 ps hT t ht0 ht1 W0 (by omega) (by omega) (by omega) c5 c4 (hA.below hB0 hlb hlg)) (fun h k => h.trans k) (chgK_b (fun k hk => .inr (.inr hk))) (Below.refl _ _) (fun _ => rfl)
    (fun pre W => (∃ v X, PSt W0.heap.size w.heap.size b gj cj ps.length (walkS (linkB ws vs) (stAt st) t (pre.map Subtype.val)).1 v X W ∧ X.map (fun x => x.1) = (walkS (linkB ws vs) (stAt st) t (pre.map Subtype.val)).2.map (mkL ws vs) ∧ 0 ≤ (walkS (linkB ws vs) (stAt st) t (pre.map Subtype.val)).1 ∧ (walkS (linkB ws vs) (stAt st) t (pre.map Subtype.val)).1.toNat < ps.length) ∧ Below w.heap.size w W)
    (fun c pre W => False ∧ Below w.heap.size w W)
    (OwnFrom.and (Own.from (fun s A B row hs hg hr => by obtain ⟨v, X, h1, h2⟩ := hs; exact ⟨v, X, h1.grown hg hr, h2⟩) _) (ownFrom_below (Nat.le_refl _) (by omega)))
    (fun c => OwnFrom.and (Own.from (fun s A B row hs hg hr => hs) _) (ownFrom_below (Nat.le_refl _) (by omega)))
    ⟨⟨.slice none 0 0, [], ⟨c0, c1, c2.1, c2.2, c3.1, c3.2, LinksAt.nil _ _, Nat.le_refl _⟩, rfl, ht0, ht1⟩, hB0⟩
    (fun x => { tmps := #[.pointer (some ⟨b, 0, none⟩), .int .i64 t, .slice (some ⟨gj, 0, none⟩) ps.length cj, .pointer (some ⟨w.heap.size, 0, none⟩), undef, .pointer (some ⟨w.heap.size + 1, 0, none⟩), .slice none 0 0, .pointer (some ⟨w.heap.size + 1 + 1, 0, none⟩), .pointer (some ⟨w.heap.size + 1 + 1 + 1, 0, none⟩), .int .i64 x.1, .int .i64 t, .pointer (some ⟨b, 0, none⟩), .pointer (some ⟨b, 0, none⟩), .pointer (some ⟨b, 3, none⟩), .int .i64 t, .func (.func 144) #[] #[.pointer (some ⟨w.heap.size + 1 + 1 + 1 + 1 + 1, 0, none⟩), .pointer (some ⟨w.heap.size + 1 + 1 + 1 + 1, 0, none⟩)], .int .i64 x.1, undef, undef, undef, undef, undef, undef, undef, undef, undef, undef, undef, undef, undef, undef, undef, undef, undef, undef, undef, undef, undef, undef, undef, undef, undef, undef, undef], defers := [] }) ?assign ?body ?done ?stop
  case assign =>
    intro l x W K hK
    gi_wp2
    exact hK
  case body =>
    rintro l pre ⟨x, hx0, hx1⟩ W ⟨⟨v, X, hP, hX, hg0, hg1⟩, hB⟩ hpl
    have hC := h.kept (Chg.of_below (fun _ => False) hB) (fun _ _ hf => hf)
    have hwl := walkS_length (linkB ws vs) (stAt st) t (pre.map Subtype.val)
    have hXl : X.length = (walkS (linkB ws vs) (stAt st) t (pre.map Subtype.val)).2.length := by have := congrArg List.length hX; simpa using this
    have hupl : (up ps t).length ≤ 40 := by have := (ht_bounds hT ht0 ht1).2; unfold ht at this; omega
    have hXL : X.length ≤ 40 := by rw [hXl]; simp only [List.length_map] at hwl; omega
    have hnext : ∀ y : BlkN ps.length, walkS (linkB ws vs) (stAt st) t ((pre ++ [y]).map Subtype.val) = wStep (linkB ws vs) (stAt st) (walkS (linkB ws vs) (stAt st) t (pre.map Subtype.val)) y.1 := fun y => by
      rw [List.map_append]; exact walkS_snoc _ _ _ _ _
    obtain ⟨q, hq⟩ : ∃ q, walkS (linkB ws vs) (stAt st) t (pre.map Subtype.val) = q := ⟨_, rfl⟩
    rw [hq] at hP hX hg0 hg1
    obtain ⟨tg, lk⟩ := q
    dsimp only at hP hX hg0 hg1
    have HNX : Hid (∀ y : BlkN ps.length, walkS (linkB ws vs) (stAt st) t ((pre ++ [y]).map Subtype.val) = wStep (linkB ws vs) (stAt st) (tg, lk) y.1) := fun y => by rw [hnext, hq]
    have HX : Hid (X.map (fun x => x.1) = lk.map (mkL ws vs)) := hX
    clear hq hnext hX hXl hwl hupl
    obtain ⟨sx, hsx⟩ : ∃ sx, stAt st x = sx := ⟨_, rfl⟩
    obtain ⟨sg, hsg⟩ : ∃ sg, stAt st tg = sg := ⟨_, rfl⟩
    obtain ⟨hb0, hb1⟩ : 0 ≤ sx ∧ sx ≤ 40 := by rw [← hsx]; exact HSB.out x.toNat
    obtain ⟨hb2, hb3⟩ : 0 ≤ sg ∧ sg ≤ 40 := by rw [← hsg]; exact HSB.out tg.toNat
    have hwr : IntKind.i64.wrap (sg - 1) = sg - 1 := Go.IntWalk.i64_in _ (by omega)
    have hr1 : W.cell? ⟨gj, x.toNat, none⟩ = some (I64 sx) := by rw [← hsx]; exact (hB.cell (p := ⟨gj, x.toNat, none⟩) hgjl).trans (HST.out _ hx1)
    have hr2 : W.cell? ⟨gj, tg.toNat, none⟩ = some (I64 sg) := by rw [← hsg]; exact (hB.cell (p := ⟨gj, tg.toNat, none⟩) hgjl).trans (HST.out _ hg1)
    have HSX : Hid (stAt st x = sx ∧ stAt st tg = sg) := ⟨hsx, hsg⟩
    clear hsx hsg
    have hxl : x < (ps.length : Int) := by omega
    have hgl : tg < (ps.length : Int) := by omega
    have hnn : 1 ≤ 6 - 1 - 1 := by omega
    have d0 := hP.c0
    have d1 := hP.c1
    have d3 := hP.c3
    dsimp only
    have hHeld : (fun w' : World => w'.cell? ⟨w.heap.size, 0, none⟩ = some (.pointer (some ⟨b, 0, none⟩)) ∧ w'.cell? ⟨w.heap.size + 1, 0, none⟩ = some (.slice (some ⟨gj, 0, none⟩) ps.length cj) ∧ w'.cell? ⟨w.heap.size + 1 + 1 + 1, 0, none⟩ = some (.int .i64 tg) ∧ w'.cell? ⟨gj, x.toNat, none⟩ = some (I64 sx) ∧ w'.cell? ⟨gj, tg.toNat, none⟩ = some (I64 sg)) W.drew := ⟨d0, d1, d3, hr1, hr2⟩
    by_cases hc : sx = sg - 1
    · have hd : (sx == sg - 1) = true := by simpa using hc
      have HC : Hid (sx = sg - 1) := hc
      clear hc
      have hCd := hC.kept (Chg.drew (Chg.refl (fun _ => False) W)) (fun _ _ hf => hf)
      gi_wp2_with fail
      refine region_held_round l (fun w' : World => w'.cell? ⟨w.heap.size, 0, none⟩ = some (.pointer (some ⟨b, 0, none⟩)) ∧ w'.cell? ⟨w.heap.size + 1, 0, none⟩ = some (.slice (some ⟨gj, 0, none⟩) ps.length cj) ∧ w'.cell? ⟨w.heap.size + 1 + 1 + 1, 0, none⟩ = some (.int .i64 tg) ∧ w'.cell? ⟨gj, x.toNat, none⟩ = some (I64 sx) ∧ w'.cell? ⟨gj, tg.toNat, none⟩ = some (I64 sg)) _ (by kernel_rfl) hmix (fun _ _ h => h) ?_
      refine takeH (i := 0) (v := ?vv1) rfl (by kernel_rfl) (by kernel_rfl) (by kernel_rfl) (fun _ _ _ h => h) (Or.inl ⟨by rfl, ?hy1⟩) (by assumption) ?rest1
      case hy1 => (intro w hSw; (try dsimp only at hSw); go_simp; try with_reducible rfl)
      try simp only [Act.put, List.setIfInBounds_toArray, List.set_cons_zero, List.set_cons_succ]
      refine takeH (i := 1) (v := ?vv2) rfl (by kernel_rfl) (by kernel_rfl) (by kernel_rfl) (fun _ _ _ h => h) (Or.inl ⟨by rfl, ?hy2⟩) (by assumption) ?rest2
      case hy2 => (intro w hSw; (try dsimp only at hSw); go_simp; try with_reducible rfl)
      try simp only [Act.put, List.setIfInBounds_toArray, List.set_cons_zero, List.set_cons_succ]
      refine takeH (i := 2) (v := ?vv3) rfl (by kernel_rfl) (by kernel_rfl) (by kernel_rfl) (fun _ _ _ h => h) (Or.inl ⟨by rfl, ?hy3⟩) (by assumption) ?rest3
      case hy3 => (intro w hSw; (try dsimp only at hSw); go_simp; try with_reducible rfl)
      try simp only [Act.put, List.setIfInBounds_toArray, List.set_cons_zero, List.set_cons_succ]
      refine takeH (i := 3) (v := ?vv4) rfl (by kernel_rfl) (by kernel_rfl) (by kernel_rfl) (fun _ _ _ h => h) (Or.inl ⟨by rfl, ?hy4⟩) (by assumption) ?rest4
      case hy4 => (intro w hSw; (try dsimp only at hSw); go_simp; try with_reducible rfl)
      try simp only [Act.put, List.setIfInBounds_toArray, List.set_cons_zero, List.set_cons_succ]
      refine takeH (i := 4) (v := ?vv5) rfl (by kernel_rfl) (by kernel_rfl) (by kernel_rfl) (fun _ _ _ h => h) (Or.inl ⟨by rfl, ?hy5⟩) (by assumption) ?rest5
      case hy5 => (intro w hSw; (try dsimp only at hSw); go_simp; try with_reducible rfl)
      try simp only [Act.put, List.setIfInBounds_toArray, List.set_cons_zero, List.set_cons_succ]
      refine takeH (i := 5) (v := ?vv6) rfl (by kernel_rfl) (by kernel_rfl) (by kernel_rfl) (fun _ _ _ h => h) (Or.inl ⟨by rfl, ?hy6⟩) (by assumption) ?rest6
      case hy6 => (intro w hSw; (try dsimp only at hSw); go_simp; try with_reducible rfl)
      try simp only [Act.put, List.setIfInBounds_toArray, List.set_cons_zero, List.set_cons_succ]
      refine takeH (i := 6) (v := ?vv7) rfl (by kernel_rfl) (by kernel_rfl) (by kernel_rfl) (fun _ _ _ h => h) (Or.inl ⟨by rfl, ?hy7⟩) (by assumption) ?rest7
      case hy7 => (intro w hSw; (try dsimp only at hSw); go_simp; try with_reducible rfl)
      try simp only [Act.put, List.setIfInBounds_toArray, List.set_cons_zero, List.set_cons_succ]
      refine takeH (i := 7) (v := ?vv8) rfl (by kernel_rfl) (by kernel_rfl) (by kernel_rfl) (fun _ _ _ h => h) (Or.inl ⟨by rfl, ?hy8⟩) (by assumption) ?rest8
      case hy8 => (intro w hSw; (try dsimp only at hSw); go_simp; try with_reducible rfl)
      try simp only [Act.put, List.setIfInBounds_toArray, List.set_cons_zero, List.set_cons_succ]
      refine takeH (i := 8) (v := .int .i64 (sg - 1)) rfl (by kernel_rfl) (by kernel_rfl) (by kernel_rfl) (fun _ _ _ h => h) (Or.inl ⟨by rfl, ?hy9⟩) (by assumption) ?rest9
      case hy9 => (intro w hSw; (try dsimp only at hSw); go_simp; try simp [*]; try omega)
      try simp only [Act.put, List.setIfInBounds_toArray, List.set_cons_zero, List.set_cons_succ]
      refine takeH (i := 9) (v := .bool true) rfl (by kernel_rfl) (by kernel_rfl) (by kernel_rfl) (fun _ _ _ h => h) (Or.inl ⟨by rfl, ?hy10⟩) (by assumption) ?rest10
      case hy10 => (intro w hSw; (try dsimp only at hSw); go_simp; try simp [*]; try omega)
      try simp only [Act.put, List.setIfInBounds_toArray, List.set_cons_zero, List.set_cons_succ]
      refine takeH (i := 10) (v := ?vv11) rfl (by kernel_rfl) (by kernel_rfl) (by kernel_rfl) (fun _ _ _ h => h) (Or.inl ⟨by rfl, ?hy11⟩) (by assumption) ?rest11
      case hy11 => (intro w hSw; (try dsimp only at hSw); go_simp; try with_reducible rfl)
      try simp only [Act.put, List.setIfInBounds_toArray, List.set_cons_zero, List.set_cons_succ]
      refine takeH (i := 11) (v := ?vv12) rfl (by kernel_rfl) (by kernel_rfl) (by kernel_rfl) (fun _ _ _ h => h) (Or.inl ⟨by rfl, ?hy12⟩) (by assumption) ?rest12
      case hy12 => (intro w hSw; (try dsimp only at hSw); go_simp; try with_reducible rfl)
      try simp only [Act.put, List.setIfInBounds_toArray, List.set_cons_zero, List.set_cons_succ]
      refine takeH (i := 12) (v := ?vv13) rfl (by kernel_rfl) (by kernel_rfl) (by kernel_rfl) (fun _ _ _ h => h) (Or.inl ⟨by rfl, ?hy13⟩) (by assumption) ?rest13
      case hy13 => (intro w hSw; (try dsimp only at hSw); go_simp; try with_reducible rfl)
      try simp only [Act.put, List.setIfInBounds_toArray, List.set_cons_zero, List.set_cons_succ]
      refine takeH (i := 13) (v := ?vv14) rfl (by kernel_rfl) (by kernel_rfl) (by kernel_rfl) (fun _ _ _ h => h) (Or.inl ⟨by rfl, ?hy14⟩) (by assumption) ?rest14
      case hy14 => (intro w hSw; (try dsimp only at hSw); go_simp; try with_reducible rfl)
      try simp only [Act.put, List.setIfInBounds_toArray, List.set_cons_zero, List.set_cons_succ]
      refine doneH (i := 14) rfl (by kernel_rfl) (by rfl) (fun K hK => ?_)
      have HK : Hid _ := hK
      clear hK
      go_simp
      refine (enough_at b S m ws ps vs _ _ _ x tg _ hCd hW hl hO).mono ?_
      rintro e W2 ⟨rfl, hB2⟩
      have hB2 : Below W.heap.size W W2 := (Below.refl W.heap.size W).drew.trans hB2
      have hP2 := hP.below hB2
      have hzW := hB.size
      have e1 : W2.cell? ⟨gj, x.toNat, none⟩ = some (I64 sx) := (hB2.cell (p := ⟨gj, x.toNat, none⟩) (by dsimp only; omega)).trans hr1
      have e2 : W2.cell? ⟨gj, tg.toNat, none⟩ = some (I64 sg) := (hB2.cell (p := ⟨gj, tg.toNat, none⟩) (by dsimp only; omega)).trans hr2
      have hBw : Below w.heap.size w W2 := hB.trans (hB2.mono hB.size)
      have hko : KeepsOthers W W2 := ⟨hB2.size, fun k o hk _ => (hB2.block k (Array.getElem?_eq_some_iff.1 hk).1).trans hk⟩
      clear hHeld hCd hr1 hr2 d0 d1 d3
      refine HK.out _ _ ⟨hP2.c0, hP2.c1, hP2.c3, e1, e2⟩ (fun hHeld => ?_)
      clear HK K
      try simp only [Act.put, List.setIfInBounds_toArray, List.set_cons_zero, List.set_cons_succ]
      refine takeH (i := 15) (v := ?vv15) rfl (by kernel_rfl) (by kernel_rfl) (by kernel_rfl) (fun _ _ _ h => h) (Or.inl ⟨by rfl, ?hy15⟩) (by assumption) ?rest15
      case hy15 => (intro w hSw; (try dsimp only at hSw); go_simp; try with_reducible rfl)
      try simp only [Act.put, List.setIfInBounds_toArray, List.set_cons_zero, List.set_cons_succ]
      refine wpAnyH_done (by kernel_rfl) ?_ _
      clear hHeld e1 e2
      cases hlk : linkB ws vs x tg
      · have HLK : Hid (linkB ws vs x tg = false) := hlk
        clear hlk
        refine Ends.normal ?_
        gi_wp2
        have hw9 : wStep (linkB ws vs) (stAt st) (tg, lk) x = (tg, lk) := by unfold wStep; simp [HLK.out]
        refine ⟨hko, Chg.of_below _ hB2, ⟨v, X, ?_⟩, hBw⟩
        rw [HNX.out, hw9]
        exact ⟨hP2, HX.out, hg0, hg1⟩
      · have HLK : Hid (linkB ws vs x tg = true) := hlk
        clear hlk
        have hw9 : wStep (linkB ws vs) (stAt st) (tg, lk) x = (x, lk ++ [(x, tg)]) := by unfold wStep; simp [HLK.out, HSX.out.1, HSX.out.2, HC.out]
        have HW9 : Hid _ := hw9
        clear hw9
        have hC2 := (h.kept (Chg.of_below (fun _ => False) hBw) (fun _ _ hf => hf)).kept (Chg.drew (Chg.refl (fun _ => False) W2)) (fun _ _ hf => hf)
        have f0 := hP2.c0
        have f3 := hP2.c3
        have hP2d : PSt W0.heap.size w.heap.size b gj cj ps.length tg v X W2.drew := hP2.below (Below.refl _ W2).drew
        obtain ⟨pX, cX, hvX⟩ := row_slice hP2.ln.row
        subst hvX
        refine Ends.normal ?_
        gi_wp2_with fail
        have hHeld : (fun w' : World => w'.cell? ⟨w.heap.size, 0, none⟩ = some (.pointer (some ⟨b, 0, none⟩)) ∧ w'.cell? ⟨w.heap.size + 1 + 1 + 1, 0, none⟩ = some (.int .i64 tg)) W2.drew := ⟨f0, f3⟩
        refine region_held_round l (fun w' : World => w'.cell? ⟨w.heap.size, 0, none⟩ = some (.pointer (some ⟨b, 0, none⟩)) ∧ w'.cell? ⟨w.heap.size + 1 + 1 + 1, 0, none⟩ = some (.int .i64 tg)) _ (by kernel_rfl) hmix (fun _ _ h => h) ?_
        refine takeH (i := 1) (v := ?vv16) rfl (by kernel_rfl) (by kernel_rfl) (by kernel_rfl) (fun _ _ _ h => h) (Or.inl ⟨by rfl, ?hy16⟩) (by assumption) ?rest16
        case hy16 => (intro w hSw; (try dsimp only at hSw); go_simp; try with_reducible rfl)
        try simp only [Act.put, List.setIfInBounds_toArray, List.set_cons_zero, List.set_cons_succ]
        refine takeH (i := 2) (v := ?vv17) rfl (by kernel_rfl) (by kernel_rfl) (by kernel_rfl) (fun _ _ _ h => h) (Or.inl ⟨by rfl, ?hy17⟩) (by assumption) ?rest17
        case hy17 => (intro w hSw; (try dsimp only at hSw); go_simp; try with_reducible rfl)
        try simp only [Act.put, List.setIfInBounds_toArray, List.set_cons_zero, List.set_cons_succ]
        refine takeH (i := 3) (v := ?vv18) rfl (by kernel_rfl) (by kernel_rfl) (by kernel_rfl) (fun _ _ _ h => h) (Or.inl ⟨by rfl, ?hy18⟩) (by assumption) ?rest18
        case hy18 => (intro w hSw; (try dsimp only at hSw); go_simp; try with_reducible rfl)
        try simp only [Act.put, List.setIfInBounds_toArray, List.set_cons_zero, List.set_cons_succ]
        clear f0 f3
        refine wpAnyH_ready (rs := [0, 4]) (by kernel_rfl) (by simp) ?_
        refine AllReadyH.cons (nthO_at rfl) (fun K hK => ?_) ?_
        · rw [if_pos (by rfl)]
          have HK : Hid _ := hK.out
          clear hK
          have l2 := hP2d.c2
          go_simp
          have hHd := hHeld
          clear hHeld l2
          refine HK.out _ _ hHd (fun hHeld => ?_)
          clear hHd
          clear HK K
          try simp only [Act.put, List.setIfInBounds_toArray, List.set_cons_zero, List.set_cons_succ]
          refine wpAnyH_ready (rs := [4]) (by kernel_rfl) (by simp) ?_
          refine AllReadyH.cons (nthO_at rfl) (fun K hK => ?_) ?_
          · rw [if_pos (by rfl)]
            have HK : Hid _ := hK.out
            clear hK
            go_simp
            refine (link_at b S m ws ps vs _ _ _ x tg _ hC2 hw12 hl hO).mono ?_
            rintro e V1 ⟨⟨u, rfl, hru⟩, hBV⟩
            have hV1 : PSt W0.heap.size w.heap.size b gj cj ps.length tg (.slice pX X.length cX) X V1 := hP2d.below hBV
            have hBc : Below W2.heap.size W2 V1 := (Below.refl W2.heap.size W2).drew.trans hBV
            obtain ⟨pu, cu, hu⟩ := row_slice hru
            subst hu
            clear hHeld
            refine HK.out _ _ ⟨hV1.c0, hV1.c3⟩ (fun hHeld => ?_)
            clear HK K
            try simp only [Act.put, List.setIfInBounds_toArray, List.set_cons_zero, List.set_cons_succ]
            refine wpAnyH_ready (rs := [5]) (by kernel_rfl) (by simp) ?_
            refine AllReadyH.cons (nthO_at rfl) (fun K hK => ?_) ?_
            · rw [if_pos (by rfl)]
              have HK : Hid _ := hK.out
              clear hK
              go_simp
              obtain ⟨V2, hV2e⟩ : ∃ V, V1.alloc (.cells #[I64 x, I64 tg, .slice pu (votersL ws.length vs x tg).length cu] 121) = V := ⟨_, rfl⟩
              have hnew : V2.heap[V1.heap.size]? = some (.cells #[I64 x, I64 tg, .slice pu (votersL ws.length vs x tg).length cu] 121 (0, 0)) := by rw [← hV2e]; exact heap_alloc_new V1 _
              have hBb : Below V1.heap.size V1 V2 := by rw [← hV2e]; exact (Below.refl _ V1).alloc (Nat.le_refl _) _
              have hV2 := hV1.below hBb
              obtain ⟨nk, hnk⟩ : ∃ nk, V1.heap.size = nk := ⟨_, rfl⟩
              rw [hV2e]
              rw [hnk] at hnew ⊢
              have HNK : Hid (V1.heap.size = nk) := hnk
              clear hHeld hV2e hnk
              refine HK.out _ _ ⟨hV2.c0, hV2.c3⟩ (fun hHeld => ?_)
              clear HK K
              try simp only [Act.put, List.setIfInBounds_toArray, List.set_cons_zero, List.set_cons_succ]
              have hru2 : V2.ownsRow W2.heap.size 3 1 (.slice pu (votersL ws.length vs x tg).length cu) (votersL ws.length vs x tg).length ((votersL ws.length vs x tg).map I64) := row_below (by simpa using hru) (hBb.mono (Nat.le_refl _)) (Nat.le_refl _)
              have hlnx : ∀ j u, [I64 x, I64 tg, Value.slice pu (votersL ws.length vs x tg).length cu][j]? = some u → V2.cell? ((⟨nk, 0, none⟩ : Addr).add j) = some u := fun j u hj => by
                have e : ((⟨nk, 0, none⟩ : Addr).add j) = ⟨nk, j, none⟩ := by
                  by_cases h0 : j = 0
                  · subst h0; simp [Addr.add]
                  · simp [Addr.add, h0]
                rw [e, cell_of_heap hnew]
                simpa using hj
              refine doneH (i := 6) rfl (by kernel_rfl) (by rfl) (fun K hK => ?_)
              have HK : Hid _ := hK
              clear hK
              refine wp_append_own _ _ _ _ (by rfl) W0.heap.size 121 i0 (.agg #[I64 0, I64 0, .slice none 0 0]) 3 40 Tryz.underlying69 hi hz0 hz1 hz2 rfl (by omega) (.slice pX X.length cX) X.length (lvRow X) (by rfl) hV2.ln.row ⟨nk, 0, none⟩ 1 1 [I64 x, I64 tg, .slice pu (votersL ws.length vs x tg).length cu] (by rfl) (by rfl) hlnx (by simp [Value.oneCell']) (by unfold maxLen; omega) (by omega) hV2.sz ?_
              intro v3 W3 hown3 hgrow3 _
              have hcg : Chg (fun k => (Value.slice pX X.length cX).ownBlock = some k) V2 W3 := (Chg.refl _ V2).grown hgrow3 (fun k e => .inl e)
              have hvlow : ∀ k, (Value.slice pX X.length cX).ownBlock = some k → W0.heap.size ≤ k := fun k hk => (hV2.ln.row.lt k hk).1
              have k0 : W3.cell? ⟨w.heap.size, 0, none⟩ = some (.pointer (some ⟨b, 0, none⟩)) := hcg.cell hV2.c0 (fun e => by have := hvlow _ e; dsimp only at this; omega)
              have k1 : W3.cell? ⟨w.heap.size + 1, 0, none⟩ = some (.slice (some ⟨gj, 0, none⟩) ps.length cj) := hcg.cell hV2.c1 (fun e => by have := hvlow _ e; dsimp only at this; omega)
              have k2 : W3.cell? ⟨w.heap.size + 1 + 1, 0, none⟩ = some (.slice pX X.length cX) := hcg.cell hV2.c2 (fun e => by have := hvlow _ e; dsimp only at this; omega)
              have k3 : W3.cell? ⟨w.heap.size + 1 + 1 + 1, 0, none⟩ = some (.int .i64 tg) := hcg.cell hV2.c3 (fun e => by have := hvlow _ e; dsimp only at this; omega)
              have q2 : W3.frozen? ⟨w.heap.size + 1 + 1, 0, none⟩ = false := (World.frozen?_of_block (hcg.block _ (World.block_lt_of_cell? V2 _ hV2.c2) (fun e => by have := hvlow _ e; dsimp only at this; omega))).trans hV2.z2
              have q3 : W3.frozen? ⟨w.heap.size + 1 + 1 + 1, 0, none⟩ = false := (World.frozen?_of_block (hcg.block _ (World.block_lt_of_cell? V2 _ hV2.c3) (fun e => by have := hvlow _ e; dsimp only at this; omega))).trans hV2.z3
              obtain ⟨p3, c3', hv3⟩ := row_slice hown3
              subst hv3
              clear hHeld
              refine HK.out _ _ ⟨k0, k3⟩ (fun hHeld => ?_)
              clear HK K
              try simp only [Act.put, List.setIfInBounds_toArray, List.set_cons_zero, List.set_cons_succ]
              refine doneH (i := 7) rfl (by kernel_rfl) (by rfl) (fun K hK => ?_)
              have HK : Hid _ := hK
              clear hK
              go_simp
              have hne : ∀ (g : Nat) (u : Value), g ≠ w.heap.size + 1 + 1 → (W3.setCell ⟨w.heap.size + 1 + 1, 0, none⟩ u).cell? ⟨g, 0, none⟩ = W3.cell? ⟨g, 0, none⟩ := fun g u hg => World.cell?_setCell_other _ _ _ _ (by intro e; cases e; exact hg rfl)
              clear hHeld
              refine HK.out _ _ ⟨(hne _ _ (by omega)).trans k0, (hne _ _ (by omega)).trans k3⟩ (fun hHeld => ?_)
              clear HK K hHeld
              try simp only [Act.put, List.setIfInBounds_toArray, List.set_cons_zero, List.set_cons_succ]
              refine wpAnyH_done (by kernel_rfl) ?_ _
              have y3 := (hne (w.heap.size + 1 + 1 + 1) (.slice p3 (X.length + 1) c3') (by omega)).trans k3
              have y3z : (W3.setCell ⟨w.heap.size + 1 + 1, 0, none⟩ (.slice p3 (X.length + 1) c3')).frozen? ⟨w.heap.size + 1 + 1 + 1, 0, none⟩ = false := by simpa using q3
              refine Ends.normal ?_
              gi_wp2
              have hcs : Chg (fun k => k = w.heap.size + 1 + 1 ∨ k = w.heap.size + 1 + 1 + 1 ∨ (Value.slice pX X.length cX).ownBlock = some k) V2 ((W3.setCell ⟨w.heap.size + 1 + 1, 0, none⟩ (.slice p3 (X.length + 1) c3')).setCell ⟨w.heap.size + 1 + 1 + 1, 0, none⟩ (.int .i64 x)) := ((hcg.mono (fun k _ e => .inr (.inr e))).setCell (p := ⟨w.heap.size + 1 + 1, 0, none⟩) (.inl (.inl rfl)) _).setCell (p := ⟨w.heap.size + 1 + 1 + 1, 0, none⟩) (.inl (.inr (.inl rfl))) _
              have hB12 : Below W.heap.size W V2 := hB2.trans ((hBc.trans (hBb.mono hBc.size)).mono hB2.size)
              have hcell : ∀ k o, (k = w.heap.size + 1 + 1 ∨ k = w.heap.size + 1 + 1 + 1 ∨ (Value.slice pX X.length cX).ownBlock = some k) → V2.heap[k]? = some o → o.isCells = true := fun k o hk ho => by
                rcases hk with rfl | rfl | hk
                · obtain ⟨o', h1, h2⟩ := cells_of_cell hV2.c2
                  rw [ho] at h1; injection h1 with h1; rw [h1]; exact h2
                · obtain ⟨o', h1, h2⟩ := cells_of_cell hV2.c3
                  rw [ho] at h1; injection h1 with h1; rw [h1]; exact h2
                · obtain ⟨cur, h1⟩ := row_type (row_low hV2.ln.row) hk
                  rw [ho] at h1; injection h1 with h1; rw [h1]; rfl
              have hko2 : KeepsOthers W V2 := ⟨hB12.size, fun k o hk _ => (hB12.block k (Array.getElem?_eq_some_iff.1 hk).1).trans hk⟩
              refine ⟨hko2.trans (hcs.keeps hcell), Chg.trans (Chg.of_below _ hB12) (hcs.mono (fun k _ hk => hk.elim .inl (fun h => h.elim (fun e => .inr (.inl e)) (fun e => .inr (.inr (hvlow k e)))))), ⟨.slice p3 (X.length + 1) c3', X ++ [(⟨x, tg, votersL ws.length vs x tg⟩, .slice pu (votersL ws.length vs x tg).length cu)], ?_⟩, (hBw.trans ((hBc.trans (hBb.mono hBc.size)).mono hBw.size)).trans (hcs.below (by have := hB12.size; omega) (fun k hk hS => by rcases hS with e | e | e <;> first | omega | (have := hvlow k e; omega)))⟩
              rw [HNX.out, HW9.out]
              refine ⟨⟨?_, ?_, ?_, ?_, ?_, ?_, ⟨?_, ?_, ?_⟩, ?_⟩, ?_, hx0, hx1⟩
              · rw [World.cell?_setCell_other _ _ _ _ (by intro e; injection e with e1; omega)]; exact (hne _ _ (by omega)).trans k0
              · rw [World.cell?_setCell_other _ _ _ _ (by intro e; injection e with e1; omega)]; exact (hne _ _ (by omega)).trans k1
              · rw [World.cell?_setCell_other _ _ _ _ (by intro e; injection e with e1; omega)]; exact World.cell?_setCell_same' _ _ _ (by rw [k2]; rfl)
              · simpa using q2
              · exact World.cell?_setCell_same' _ _ _ (by rw [y3]; rfl)
              · simpa using q3
              · have hr := row_setCell (b := w.heap.size + 1 + 1 + 1) (row_setCell (b := w.heap.size + 1 + 1) (row_low hown3) 0 (.slice p3 (X.length + 1) c3') (fun e => by have := (hown3.lt _ e).1; omega)) 0 (.int .i64 x) (fun e => by have := (hown3.lt _ e).1; omega)
                rw [lvRow_append, List.length_append]
                refine ⟨by rw [List.length_append, lvRow_length, lvRow_length]; simp; omega, ?_⟩
                rcases hr.2 with h1 | ⟨g, cap, cur, h1, _, h2⟩
                · exact .inl h1
                · refine .inr ⟨g, cap, cur, h1, (hown3.lt g (by rw [h1]; rfl)).1, h2⟩
              · intro y hy
                have apartV : ∀ k, y.2.ownBlock = some k → ¬ (k = w.heap.size + 1 + 1 ∨ k = w.heap.size + 1 + 1 + 1 ∨ (Value.slice pX X.length cX).ownBlock = some k) := by
                  intro k hk hS
                  have hyr : V2.ownsRow W0.heap.size 3 1 y.2 y.1.vs.length (y.1.vs.map I64) := by
                    rcases List.mem_append.1 hy with h1 | h1
                    · exact hV2.ln.each y h1
                    · simp only [List.mem_singleton] at h1; subst h1; exact row_lower hru2 (by have := hP2.sz; omega)
                  rcases hS with e | e | e
                  · have := (hyr.lt k hk).1; omega
                  · have := (hyr.lt k hk).1; omega
                  · obtain ⟨c1, e1⟩ := row_type (row_low hyr) hk
                    exact not_row (row_low hV2.ln.row) e1 (by decide) e
                rcases List.mem_append.1 hy with h1 | h1
                · exact hcs.row (hV2.ln.each y h1) apartV
                · simp only [List.mem_singleton] at h1
                  subst h1
                  exact hcs.row (row_lower hru2 (by have := hP2.sz; omega)) apartV
              · rw [List.pairwise_append]
                refine ⟨hV2.ln.apart, by simp, fun y hy z hz k hk => ?_⟩
                simp only [List.mem_singleton] at hz
                subst hz
                intro hk2
                have h1 := (hP2.ln.each y hy).lt k hk
                have h2 := (hru2.lt k hk2).1
                omega
              · have := hcs.size; have := hV2.sz; omega
              · rw [List.map_append, List.map_append, HX.out]; rfl
            exact AllReadyH.nil
          exact AllReadyH.nil
        refine AllReadyH.cons (nthO_at rfl) (fun K hK => ?_) ?_
        · rw [if_pos (by rfl)]
          have HK : Hid _ := hK.out
          clear hK
          go_simp
          refine (link_at b S m ws ps vs _ _ _ x tg _ hC2 hw12 hl hO).mono ?_
          rintro e V1 ⟨⟨u, rfl, hru⟩, hBV⟩
          have hV1 : PSt W0.heap.size w.heap.size b gj cj ps.length tg (.slice pX X.length cX) X V1 := hP2d.below hBV
          have hBc : Below W2.heap.size W2 V1 := (Below.refl W2.heap.size W2).drew.trans hBV
          obtain ⟨pu, cu, hu⟩ := row_slice hru
          subst hu
          clear hHeld
          refine HK.out _ _ ⟨hV1.c0, hV1.c3⟩ (fun hHeld => ?_)
          clear HK K
          try simp only [Act.put, List.setIfInBounds_toArray, List.set_cons_zero, List.set_cons_succ]
          refine wpAnyH_ready (rs := [0, 5]) (by kernel_rfl) (by simp) ?_
          refine AllReadyH.cons (nthO_at rfl) (fun K hK => ?_) ?_
          · rw [if_pos (by rfl)]
            have HK : Hid _ := hK.out
            clear hK
            have l2 := hV1.c2
            go_simp
            have hHd := hHeld
            clear hHeld l2
            refine HK.out _ _ hHd (fun hHeld => ?_)
            clear hHd
            clear HK K
            try simp only [Act.put, List.setIfInBounds_toArray, List.set_cons_zero, List.set_cons_succ]
            refine wpAnyH_ready (rs := [5]) (by kernel_rfl) (by simp) ?_
            refine AllReadyH.cons (nthO_at rfl) (fun K hK => ?_) ?_
            · rw [if_pos (by rfl)]
              have HK : Hid _ := hK.out
              clear hK
              go_simp
              obtain ⟨V2, hV2e⟩ : ∃ V, V1.alloc (.cells #[I64 x, I64 tg, .slice pu (votersL ws.length vs x tg).length cu] 121) = V := ⟨_, rfl⟩
              have hnew : V2.heap[V1.heap.size]? = some (.cells #[I64 x, I64 tg, .slice pu (votersL ws.length vs x tg).length cu] 121 (0, 0)) := by rw [← hV2e]; exact heap_alloc_new V1 _
              have hBb : Below V1.heap.size V1 V2 := by rw [← hV2e]; exact (Below.refl _ V1).alloc (Nat.le_refl _) _
              have hV2 := hV1.below hBb
              obtain ⟨nk, hnk⟩ : ∃ nk, V1.heap.size = nk := ⟨_, rfl⟩
              rw [hV2e]
              rw [hnk] at hnew ⊢
              have HNK : Hid (V1.heap.size = nk) := hnk
              clear hHeld hV2e hnk
              refine HK.out _ _ ⟨hV2.c0, hV2.c3⟩ (fun hHeld => ?_)
              clear HK K
              try simp only [Act.put, List.setIfInBounds_toArray, List.set_cons_zero, List.set_cons_succ]
              have hru2 : V2.ownsRow W2.heap.size 3 1 (.slice pu (votersL ws.length vs x tg).length cu) (votersL ws.length vs x tg).length ((votersL ws.length vs x tg).map I64) := row_below (by simpa using hru) (hBb.mono (Nat.le_refl _)) (Nat.le_refl _)
              have hlnx : ∀ j u, [I64 x, I64 tg, Value.slice pu (votersL ws.length vs x tg).length cu][j]? = some u → V2.cell? ((⟨nk, 0, none⟩ : Addr).add j) = some u := fun j u hj => by
                have e : ((⟨nk, 0, none⟩ : Addr).add j) = ⟨nk, j, none⟩ := by
                  by_cases h0 : j = 0
                  · subst h0; simp [Addr.add]
                  · simp [Addr.add, h0]
                rw [e, cell_of_heap hnew]
                simpa using hj
              refine doneH (i := 6) rfl (by kernel_rfl) (by rfl) (fun K hK => ?_)
              have HK : Hid _ := hK
              clear hK
              refine wp_append_own _ _ _ _ (by rfl) W0.heap.size 121 i0 (.agg #[I64 0, I64 0, .slice none 0 0]) 3 40 Tryz.underlying69 hi hz0 hz1 hz2 rfl (by omega) (.slice pX X.length cX) X.length (lvRow X) (by rfl) hV2.ln.row ⟨nk, 0, none⟩ 1 1 [I64 x, I64 tg, .slice pu (votersL ws.length vs x tg).length cu] (by rfl) (by rfl) hlnx (by simp [Value.oneCell']) (by unfold maxLen; omega) (by omega) hV2.sz ?_
              intro v3 W3 hown3 hgrow3 _
              have hcg : Chg (fun k => (Value.slice pX X.length cX).ownBlock = some k) V2 W3 := (Chg.refl _ V2).grown hgrow3 (fun k e => .inl e)
              have hvlow : ∀ k, (Value.slice pX X.length cX).ownBlock = some k → W0.heap.size ≤ k := fun k hk => (hV2.ln.row.lt k hk).1
              have k0 : W3.cell? ⟨w.heap.size, 0, none⟩ = some (.pointer (some ⟨b, 0, none⟩)) := hcg.cell hV2.c0 (fun e => by have := hvlow _ e; dsimp only at this; omega)
              have k1 : W3.cell? ⟨w.heap.size + 1, 0, none⟩ = some (.slice (some ⟨gj, 0, none⟩) ps.length cj) := hcg.cell hV2.c1 (fun e => by have := hvlow _ e; dsimp only at this; omega)
              have k2 : W3.cell? ⟨w.heap.size + 1 + 1, 0, none⟩ = some (.slice pX X.length cX) := hcg.cell hV2.c2 (fun e => by have := hvlow _ e; dsimp only at this; omega)
              have k3 : W3.cell? ⟨w.heap.size + 1 + 1 + 1, 0, none⟩ = some (.int .i64 tg) := hcg.cell hV2.c3 (fun e => by have := hvlow _ e; dsimp only at this; omega)
              have q2 : W3.frozen? ⟨w.heap.size + 1 + 1, 0, none⟩ = false := (World.frozen?_of_block (hcg.block _ (World.block_lt_of_cell? V2 _ hV2.c2) (fun e => by have := hvlow _ e; dsimp only at this; omega))).trans hV2.z2
              have q3 : W3.frozen? ⟨w.heap.size + 1 + 1 + 1, 0, none⟩ = false := (World.frozen?_of_block (hcg.block _ (World.block_lt_of_cell? V2 _ hV2.c3) (fun e => by have := hvlow _ e; dsimp only at this; omega))).trans hV2.z3
              obtain ⟨p3, c3', hv3⟩ := row_slice hown3
              subst hv3
              clear hHeld
              refine HK.out _ _ ⟨k0, k3⟩ (fun hHeld => ?_)
              clear HK K
              try simp only [Act.put, List.setIfInBounds_toArray, List.set_cons_zero, List.set_cons_succ]
              refine doneH (i := 7) rfl (by kernel_rfl) (by rfl) (fun K hK => ?_)
              have HK : Hid _ := hK
              clear hK
              go_simp
              have hne : ∀ (g : Nat) (u : Value), g ≠ w.heap.size + 1 + 1 → (W3.setCell ⟨w.heap.size + 1 + 1, 0, none⟩ u).cell? ⟨g, 0, none⟩ = W3.cell? ⟨g, 0, none⟩ := fun g u hg => World.cell?_setCell_other _ _ _ _ (by intro e; cases e; exact hg rfl)
              clear hHeld
              refine HK.out _ _ ⟨(hne _ _ (by omega)).trans k0, (hne _ _ (by omega)).trans k3⟩ (fun hHeld => ?_)
              clear HK K hHeld
              try simp only [Act.put, List.setIfInBounds_toArray, List.set_cons_zero, List.set_cons_succ]
              refine wpAnyH_done (by kernel_rfl) ?_ _
              have y3 := (hne (w.heap.size + 1 + 1 + 1) (.slice p3 (X.length + 1) c3') (by omega)).trans k3
              have y3z : (W3.setCell ⟨w.heap.size + 1 + 1, 0, none⟩ (.slice p3 (X.length + 1) c3')).frozen? ⟨w.heap.size + 1 + 1 + 1, 0, none⟩ = false := by simpa using q3
              refine Ends.normal ?_
              gi_wp2
              have hcs : Chg (fun k => k = w.heap.size + 1 + 1 ∨ k = w.heap.size + 1 + 1 + 1 ∨ (Value.slice pX X.length cX).ownBlock = some k) V2 ((W3.setCell ⟨w.heap.size + 1 + 1, 0, none⟩ (.slice p3 (X.length + 1) c3')).setCell ⟨w.heap.size + 1 + 1 + 1, 0, none⟩ (.int .i64 x)) := ((hcg.mono (fun k _ e => .inr (.inr e))).setCell (p := ⟨w.heap.size + 1 + 1, 0, none⟩) (.inl (.inl rfl)) _).setCell (p := ⟨w.heap.size + 1 + 1 + 1, 0, none⟩) (.inl (.inr (.inl rfl))) _
              have hB12 : Below W.heap.size W V2 := hB2.trans ((hBc.trans (hBb.mono hBc.size)).mono hB2.size)
              have hcell : ∀ k o, (k = w.heap.size + 1 + 1 ∨ k = w.heap.size + 1 + 1 + 1 ∨ (Value.slice pX X.length cX).ownBlock = some k) → V2.heap[k]? = some o → o.isCells = true := fun k o hk ho => by
                rcases hk with rfl | rfl | hk
                · obtain ⟨o', h1, h2⟩ := cells_of_cell hV2.c2
                  rw [ho] at h1; injection h1 with h1; rw [h1]; exact h2
                · obtain ⟨o', h1, h2⟩ := cells_of_cell hV2.c3
                  rw [ho] at h1; injection h1 with h1; rw [h1]; exact h2
                · obtain ⟨cur, h1⟩ := row_type (row_low hV2.ln.row) hk
                  rw [ho] at h1; injection h1 with h1; rw [h1]; rfl
              have hko2 : KeepsOthers W V2 := ⟨hB12.size, fun k o hk _ => (hB12.block k (Array.getElem?_eq_some_iff.1 hk).1).trans hk⟩
              refine ⟨hko2.trans (hcs.keeps hcell), Chg.trans (Chg.of_below _ hB12) (hcs.mono (fun k _ hk => hk.elim .inl (fun h => h.elim (fun e => .inr (.inl e)) (fun e => .inr (.inr (hvlow k e)))))), ⟨.slice p3 (X.length + 1) c3', X ++ [(⟨x, tg, votersL ws.length vs x tg⟩, .slice pu (votersL ws.length vs x tg).length cu)], ?_⟩, (hBw.trans ((hBc.trans (hBb.mono hBc.size)).mono hBw.size)).trans (hcs.below (by have := hB12.size; omega) (fun k hk hS => by rcases hS with e | e | e <;> first | omega | (have := hvlow k e; omega)))⟩
              rw [HNX.out, HW9.out]
              refine ⟨⟨?_, ?_, ?_, ?_, ?_, ?_, ⟨?_, ?_, ?_⟩, ?_⟩, ?_, hx0, hx1⟩
              · rw [World.cell?_setCell_other _ _ _ _ (by intro e; injection e with e1; omega)]; exact (hne _ _ (by omega)).trans k0
              · rw [World.cell?_setCell_other _ _ _ _ (by intro e; injection e with e1; omega)]; exact (hne _ _ (by omega)).trans k1
              · rw [World.cell?_setCell_other _ _ _ _ (by intro e; injection e with e1; omega)]; exact World.cell?_setCell_same' _ _ _ (by rw [k2]; rfl)
              · simpa using q2
              · exact World.cell?_setCell_same' _ _ _ (by rw [y3]; rfl)
              · simpa using q3
              · have hr := row_setCell (b := w.heap.size + 1 + 1 + 1) (row_setCell (b := w.heap.size + 1 + 1) (row_low hown3) 0 (.slice p3 (X.length + 1) c3') (fun e => by have := (hown3.lt _ e).1; omega)) 0 (.int .i64 x) (fun e => by have := (hown3.lt _ e).1; omega)
                rw [lvRow_append, List.length_append]
                refine ⟨by rw [List.length_append, lvRow_length, lvRow_length]; simp; omega, ?_⟩
                rcases hr.2 with h1 | ⟨g, cap, cur, h1, _, h2⟩
                · exact .inl h1
                · refine .inr ⟨g, cap, cur, h1, (hown3.lt g (by rw [h1]; rfl)).1, h2⟩
              · intro y hy
                have apartV : ∀ k, y.2.ownBlock = some k → ¬ (k = w.heap.size + 1 + 1 ∨ k = w.heap.size + 1 + 1 + 1 ∨ (Value.slice pX X.length cX).ownBlock = some k) := by
                  intro k hk hS
                  have hyr : V2.ownsRow W0.heap.size 3 1 y.2 y.1.vs.length (y.1.vs.map I64) := by
                    rcases List.mem_append.1 hy with h1 | h1
                    · exact hV2.ln.each y h1
                    · simp only [List.mem_singleton] at h1; subst h1; exact row_lower hru2 (by have := hP2.sz; omega)
                  rcases hS with e | e | e
                  · have := (hyr.lt k hk).1; omega
                  · have := (hyr.lt k hk).1; omega
                  · obtain ⟨c1, e1⟩ := row_type (row_low hyr) hk
                    exact not_row (row_low hV2.ln.row) e1 (by decide) e
                rcases List.mem_append.1 hy with h1 | h1
                · exact hcs.row (hV2.ln.each y h1) apartV
                · simp only [List.mem_singleton] at h1
                  subst h1
                  exact hcs.row (row_lower hru2 (by have := hP2.sz; omega)) apartV
              · rw [List.pairwise_append]
                refine ⟨hV2.ln.apart, by simp, fun y hy z hz k hk => ?_⟩
                simp only [List.mem_singleton] at hz
                subst hz
                intro hk2
                have h1 := (hP2.ln.each y hy).lt k hk
                have h2 := (hru2.lt k hk2).1
                omega
              · have := hcs.size; have := hV2.sz; omega
              · rw [List.map_append, List.map_append, HX.out]; rfl
            exact AllReadyH.nil
          refine AllReadyH.cons (nthO_at rfl) (fun K hK => ?_) ?_
          · rw [if_pos (by rfl)]
            have HK : Hid _ := hK.out
            clear hK
            go_simp
            obtain ⟨V2, hV2e⟩ : ∃ V, V1.alloc (.cells #[I64 x, I64 tg, .slice pu (votersL ws.length vs x tg).length cu] 121) = V := ⟨_, rfl⟩
            have hnew : V2.heap[V1.heap.size]? = some (.cells #[I64 x, I64 tg, .slice pu (votersL ws.length vs x tg).length cu] 121 (0, 0)) := by rw [← hV2e]; exact heap_alloc_new V1 _
            have hBb : Below V1.heap.size V1 V2 := by rw [← hV2e]; exact (Below.refl _ V1).alloc (Nat.le_refl _) _
            have hV2 := hV1.below hBb
            obtain ⟨nk, hnk⟩ : ∃ nk, V1.heap.size = nk := ⟨_, rfl⟩
            rw [hV2e]
            rw [hnk] at hnew ⊢
            have HNK : Hid (V1.heap.size = nk) := hnk
            clear hHeld hV2e hnk
            refine HK.out _ _ ⟨hV2.c0, hV2.c3⟩ (fun hHeld => ?_)
            clear HK K
            try simp only [Act.put, List.setIfInBounds_toArray, List.set_cons_zero, List.set_cons_succ]
            refine wpAnyH_ready (rs := [0]) (by kernel_rfl) (by simp) ?_
            refine AllReadyH.cons (nthO_at rfl) (fun K hK => ?_) ?_
            · rw [if_pos (by rfl)]
              have HK : Hid _ := hK.out
              clear hK
              have l2 := hV2.c2
              go_simp
              have hHd := hHeld
              clear hHeld l2
              refine HK.out _ _ hHd (fun hHeld => ?_)
              clear hHd
              clear HK K
              try simp only [Act.put, List.setIfInBounds_toArray, List.set_cons_zero, List.set_cons_succ]
              have hru2 : V2.ownsRow W2.heap.size 3 1 (.slice pu (votersL ws.length vs x tg).length cu) (votersL ws.length vs x tg).length ((votersL ws.length vs x tg).map I64) := row_below (by simpa using hru) (hBb.mono (Nat.le_refl _)) (Nat.le_refl _)
              have hlnx : ∀ j u, [I64 x, I64 tg, Value.slice pu (votersL ws.length vs x tg).length cu][j]? = some u → V2.cell? ((⟨nk, 0, none⟩ : Addr).add j) = some u := fun j u hj => by
                have e : ((⟨nk, 0, none⟩ : Addr).add j) = ⟨nk, j, none⟩ := by
                  by_cases h0 : j = 0
                  · subst h0; simp [Addr.add]
                  · simp [Addr.add, h0]
                rw [e, cell_of_heap hnew]
                simpa using hj
              refine doneH (i := 6) rfl (by kernel_rfl) (by rfl) (fun K hK => ?_)
              have HK : Hid _ := hK
              clear hK
              refine wp_append_own _ _ _ _ (by rfl) W0.heap.size 121 i0 (.agg #[I64 0, I64 0, .slice none 0 0]) 3 40 Tryz.underlying69 hi hz0 hz1 hz2 rfl (by omega) (.slice pX X.length cX) X.length (lvRow X) (by rfl) hV2.ln.row ⟨nk, 0, none⟩ 1 1 [I64 x, I64 tg, .slice pu (votersL ws.length vs x tg).length cu] (by rfl) (by rfl) hlnx (by simp [Value.oneCell']) (by unfold maxLen; omega) (by omega) hV2.sz ?_
              intro v3 W3 hown3 hgrow3 _
              have hcg : Chg (fun k => (Value.slice pX X.length cX).ownBlock = some k) V2 W3 := (Chg.refl _ V2).grown hgrow3 (fun k e => .inl e)
              have hvlow : ∀ k, (Value.slice pX X.length cX).ownBlock = some k → W0.heap.size ≤ k := fun k hk => (hV2.ln.row.lt k hk).1
              have k0 : W3.cell? ⟨w.heap.size, 0, none⟩ = some (.pointer (some ⟨b, 0, none⟩)) := hcg.cell hV2.c0 (fun e => by have := hvlow _ e; dsimp only at this; omega)
              have k1 : W3.cell? ⟨w.heap.size + 1, 0, none⟩ = some (.slice (some ⟨gj, 0, none⟩) ps.length cj) := hcg.cell hV2.c1 (fun e => by have := hvlow _ e; dsimp only at this; omega)
              have k2 : W3.cell? ⟨w.heap.size + 1 + 1, 0, none⟩ = some (.slice pX X.length cX) := hcg.cell hV2.c2 (fun e => by have := hvlow _ e; dsimp only at this; omega)
              have k3 : W3.cell? ⟨w.heap.size + 1 + 1 + 1, 0, none⟩ = some (.int .i64 tg) := hcg.cell hV2.c3 (fun e => by have := hvlow _ e; dsimp only at this; omega)
              have q2 : W3.frozen? ⟨w.heap.size + 1 + 1, 0, none⟩ = false := (World.frozen?_of_block (hcg.block _ (World.block_lt_of_cell? V2 _ hV2.c2) (fun e => by have := hvlow _ e; dsimp only at this; omega))).trans hV2.z2
              have q3 : W3.frozen? ⟨w.heap.size + 1 + 1 + 1, 0, none⟩ = false := (World.frozen?_of_block (hcg.block _ (World.block_lt_of_cell? V2 _ hV2.c3) (fun e => by have := hvlow _ e; dsimp only at this; omega))).trans hV2.z3
              obtain ⟨p3, c3', hv3⟩ := row_slice hown3
              subst hv3
              clear hHeld
              refine HK.out _ _ ⟨k0, k3⟩ (fun hHeld => ?_)
              clear HK K
              try simp only [Act.put, List.setIfInBounds_toArray, List.set_cons_zero, List.set_cons_succ]
              refine doneH (i := 7) rfl (by kernel_rfl) (by rfl) (fun K hK => ?_)
              have HK : Hid _ := hK
              clear hK
              go_simp
              have hne : ∀ (g : Nat) (u : Value), g ≠ w.heap.size + 1 + 1 → (W3.setCell ⟨w.heap.size + 1 + 1, 0, none⟩ u).cell? ⟨g, 0, none⟩ = W3.cell? ⟨g, 0, none⟩ := fun g u hg => World.cell?_setCell_other _ _ _ _ (by intro e; cases e; exact hg rfl)
              clear hHeld
              refine HK.out _ _ ⟨(hne _ _ (by omega)).trans k0, (hne _ _ (by omega)).trans k3⟩ (fun hHeld => ?_)
              clear HK K hHeld
              try simp only [Act.put, List.setIfInBounds_toArray, List.set_cons_zero, List.set_cons_succ]
              refine wpAnyH_done (by kernel_rfl) ?_ _
              have y3 := (hne (w.heap.size + 1 + 1 + 1) (.slice p3 (X.length + 1) c3') (by omega)).trans k3
              have y3z : (W3.setCell ⟨w.heap.size + 1 + 1, 0, none⟩ (.slice p3 (X.length + 1) c3')).frozen? ⟨w.heap.size + 1 + 1 + 1, 0, none⟩ = false := by simpa using q3
              refine Ends.normal ?_
              gi_wp2
              have hcs : Chg (fun k => k = w.heap.size + 1 + 1 ∨ k = w.heap.size + 1 + 1 + 1 ∨ (Value.slice pX X.length cX).ownBlock = some k) V2 ((W3.setCell ⟨w.heap.size + 1 + 1, 0, none⟩ (.slice p3 (X.length + 1) c3')).setCell ⟨w.heap.size + 1 + 1 + 1, 0, none⟩ (.int .i64 x)) := ((hcg.mono (fun k _ e => .inr (.inr e))).setCell (p := ⟨w.heap.size + 1 + 1, 0, none⟩) (.inl (.inl rfl)) _).setCell (p := ⟨w.heap.size + 1 + 1 + 1, 0, none⟩) (.inl (.inr (.inl rfl))) _
              have hB12 : Below W.heap.size W V2 := hB2.trans ((hBc.trans (hBb.mono hBc.size)).mono hB2.size)
              have hcell : ∀ k o, (k = w.heap.size + 1 + 1 ∨ k = w.heap.size + 1 + 1 + 1 ∨ (Value.slice pX X.length cX).ownBlock = some k) → V2.heap[k]? = some o → o.isCells = true := fun k o hk ho => by
                rcases hk with rfl | rfl | hk
                · obtain ⟨o', h1, h2⟩ := cells_of_cell hV2.c2
                  rw [ho] at h1; injection h1 with h1; rw [h1]; exact h2
                · obtain ⟨o', h1, h2⟩ := cells_of_cell hV2.c3
                  rw [ho] at h1; injection h1 with h1; rw [h1]; exact h2
                · obtain ⟨cur, h1⟩ := row_type (row_low hV2.ln.row) hk
                  rw [ho] at h1; injection h1 with h1; rw [h1]; rfl
              have hko2 : KeepsOthers W V2 := ⟨hB12.size, fun k o hk _ => (hB12.block k (Array.getElem?_eq_some_iff.1 hk).1).trans hk⟩
              refine ⟨hko2.trans (hcs.keeps hcell), Chg.trans (Chg.of_below _ hB12) (hcs.mono (fun k _ hk => hk.elim .inl (fun h => h.elim (fun e => .inr (.inl e)) (fun e => .inr (.inr (hvlow k e)))))), ⟨.slice p3 (X.length + 1) c3', X ++ [(⟨x, tg, votersL ws.length vs x tg⟩, .slice pu (votersL ws.length vs x tg).length cu)], ?_⟩, (hBw.trans ((hBc.trans (hBb.mono hBc.size)).mono hBw.size)).trans (hcs.below (by have := hB12.size; omega) (fun k hk hS => by rcases hS with e | e | e <;> first | omega | (have := hvlow k e; omega)))⟩
              rw [HNX.out, HW9.out]
              refine ⟨⟨?_, ?_, ?_, ?_, ?_, ?_, ⟨?_, ?_, ?_⟩, ?_⟩, ?_, hx0, hx1⟩
              · rw [World.cell?_setCell_other _ _ _ _ (by intro e; injection e with e1; omega)]; exact (hne _ _ (by omega)).trans k0
              · rw [World.cell?_setCell_other _ _ _ _ (by intro e; injection e with e1; omega)]; exact (hne _ _ (by omega)).trans k1
              · rw [World.cell?_setCell_other _ _ _ _ (by intro e; injection e with e1; omega)]; exact World.cell?_setCell_same' _ _ _ (by rw [k2]; rfl)
              · simpa using q2
              · exact World.cell?_setCell_same' _ _ _ (by rw [y3]; rfl)
              · simpa using q3
              · have hr := row_setCell (b := w.heap.size + 1 + 1 + 1) (row_setCell (b := w.heap.size + 1 + 1) (row_low hown3) 0 (.slice p3 (X.length + 1) c3') (fun e => by have := (hown3.lt _ e).1; omega)) 0 (.int .i64 x) (fun e => by have := (hown3.lt _ e).1; omega)
                rw [lvRow_append, List.length_append]
                refine ⟨by rw [List.length_append, lvRow_length, lvRow_length]; simp; omega, ?_⟩
                rcases hr.2 with h1 | ⟨g, cap, cur, h1, _, h2⟩
                · exact .inl h1
                · refine .inr ⟨g, cap, cur, h1, (hown3.lt g (by rw [h1]; rfl)).1, h2⟩
              · intro y hy
                have apartV : ∀ k, y.2.ownBlock = some k → ¬ (k = w.heap.size + 1 + 1 ∨ k = w.heap.size + 1 + 1 + 1 ∨ (Value.slice pX X.length cX).ownBlock = some k) := by
                  intro k hk hS
                  have hyr : V2.ownsRow W0.heap.size 3 1 y.2 y.1.vs.length (y.1.vs.map I64) := by
                    rcases List.mem_append.1 hy with h1 | h1
                    · exact hV2.ln.each y h1
                    · simp only [List.mem_singleton] at h1; subst h1; exact row_lower hru2 (by have := hP2.sz; omega)
                  rcases hS with e | e | e
                  · have := (hyr.lt k hk).1; omega
                  · have := (hyr.lt k hk).1; omega
                  · obtain ⟨c1, e1⟩ := row_type (row_low hyr) hk
                    exact not_row (row_low hV2.ln.row) e1 (by decide) e
                rcases List.mem_append.1 hy with h1 | h1
                · exact hcs.row (hV2.ln.each y h1) apartV
                · simp only [List.mem_singleton] at h1
                  subst h1
                  exact hcs.row (row_lower hru2 (by have := hP2.sz; omega)) apartV
              · rw [List.pairwise_append]
                refine ⟨hV2.ln.apart, by simp, fun y hy z hz k hk => ?_⟩
                simp only [List.mem_singleton] at hz
                subst hz
                intro hk2
                have h1 := (hP2.ln.each y hy).lt k hk
                have h2 := (hru2.lt k hk2).1
                omega
              · have := hcs.size; have := hV2.sz; omega
              · rw [List.map_append, List.map_append, HX.out]; rfl
            exact AllReadyH.nil
          exact AllReadyH.nil
        exact AllReadyH.nil
    · have hd : (sx == sg - 1) = false := by simpa using hc
      have HC : Hid (¬ sx = sg - 1) := hc
      clear hc
      gi_wp2_with fail
      refine region_held_round l (fun w' : World => w'.cell? ⟨w.heap.size, 0, none⟩ = some (.pointer (some ⟨b, 0, none⟩)) ∧ w'.cell? ⟨w.heap.size + 1, 0, none⟩ = some (.slice (some ⟨gj, 0, none⟩) ps.length cj) ∧ w'.cell? ⟨w.heap.size + 1 + 1 + 1, 0, none⟩ = some (.int .i64 tg) ∧ w'.cell? ⟨gj, x.toNat, none⟩ = some (I64 sx) ∧ w'.cell? ⟨gj, tg.toNat, none⟩ = some (I64 sg)) _ (by kernel_rfl) hmix (fun _ _ h => h) ?_
      refine takeH (i := 0) (v := ?vv19) rfl (by kernel_rfl) (by kernel_rfl) (by kernel_rfl) (fun _ _ _ h => h) (Or.inl ⟨by rfl, ?hy19⟩) (by assumption) ?rest19
      case hy19 => (intro w hSw; (try dsimp only at hSw); go_simp; try with_reducible rfl)
      try simp only [Act.put, List.setIfInBounds_toArray, List.set_cons_zero, List.set_cons_succ]
      refine takeH (i := 1) (v := ?vv20) rfl (by kernel_rfl) (by kernel_rfl) (by kernel_rfl) (fun _ _ _ h => h) (Or.inl ⟨by rfl, ?hy20⟩) (by assumption) ?rest20
      case hy20 => (intro w hSw; (try dsimp only at hSw); go_simp; try with_reducible rfl)
      try simp only [Act.put, List.setIfInBounds_toArray, List.set_cons_zero, List.set_cons_succ]
      refine takeH (i := 2) (v := ?vv21) rfl (by kernel_rfl) (by kernel_rfl) (by kernel_rfl) (fun _ _ _ h => h) (Or.inl ⟨by rfl, ?hy21⟩) (by assumption) ?rest21
      case hy21 => (intro w hSw; (try dsimp only at hSw); go_simp; try with_reducible rfl)
      try simp only [Act.put, List.setIfInBounds_toArray, List.set_cons_zero, List.set_cons_succ]
      refine takeH (i := 3) (v := ?vv22) rfl (by kernel_rfl) (by kernel_rfl) (by kernel_rfl) (fun _ _ _ h => h) (Or.inl ⟨by rfl, ?hy22⟩) (by assumption) ?rest22
      case hy22 => (intro w hSw; (try dsimp only at hSw); go_simp; try with_reducible rfl)
      try simp only [Act.put, List.setIfInBounds_toArray, List.set_cons_zero, List.set_cons_succ]
      refine takeH (i := 4) (v := ?vv23) rfl (by kernel_rfl) (by kernel_rfl) (by kernel_rfl) (fun _ _ _ h => h) (Or.inl ⟨by rfl, ?hy23⟩) (by assumption) ?rest23
      case hy23 => (intro w hSw; (try dsimp only at hSw); go_simp; try with_reducible rfl)
      try simp only [Act.put, List.setIfInBounds_toArray, List.set_cons_zero, List.set_cons_succ]
      refine takeH (i := 5) (v := ?vv24) rfl (by kernel_rfl) (by kernel_rfl) (by kernel_rfl) (fun _ _ _ h => h) (Or.inl ⟨by rfl, ?hy24⟩) (by assumption) ?rest24
      case hy24 => (intro w hSw; (try dsimp only at hSw); go_simp; try with_reducible rfl)
      try simp only [Act.put, List.setIfInBounds_toArray, List.set_cons_zero, List.set_cons_succ]
      refine takeH (i := 6) (v := ?vv25) rfl (by kernel_rfl) (by kernel_rfl) (by kernel_rfl) (fun _ _ _ h => h) (Or.inl ⟨by rfl, ?hy25⟩) (by assumption) ?rest25
      case hy25 => (intro w hSw; (try dsimp only at hSw); go_simp; try with_reducible rfl)
      try simp only [Act.put, List.setIfInBounds_toArray, List.set_cons_zero, List.set_cons_succ]
      refine takeH (i := 7) (v := ?vv26) rfl (by kernel_rfl) (by kernel_rfl) (by kernel_rfl) (fun _ _ _ h => h) (Or.inl ⟨by rfl, ?hy26⟩) (by assumption) ?rest26
      case hy26 => (intro w hSw; (try dsimp only at hSw); go_simp; try with_reducible rfl)
      try simp only [Act.put, List.setIfInBounds_toArray, List.set_cons_zero, List.set_cons_succ]
      refine takeH (i := 8) (v := .int .i64 (sg - 1)) rfl (by kernel_rfl) (by kernel_rfl) (by kernel_rfl) (fun _ _ _ h => h) (Or.inl ⟨by rfl, ?hy27⟩) (by assumption) ?rest27
      case hy27 => (intro w hSw; (try dsimp only at hSw); go_simp; try simp [*]; try omega)
      try simp only [Act.put, List.setIfInBounds_toArray, List.set_cons_zero, List.set_cons_succ]
      refine takeH (i := 9) (v := .bool false) rfl (by kernel_rfl) (by kernel_rfl) (by kernel_rfl) (fun _ _ _ h => h) (Or.inl ⟨by rfl, ?hy28⟩) (by assumption) ?rest28
      case hy28 => (intro w hSw; (try dsimp only at hSw); go_simp; try simp [*]; try omega)
      try simp only [Act.put, List.setIfInBounds_toArray, List.set_cons_zero, List.set_cons_succ]
      refine takeH (i := 10) (v := ?vv29) rfl (by kernel_rfl) (by kernel_rfl) (by kernel_rfl) (fun _ _ _ h => h) (Or.inl ⟨by rfl, ?hy29⟩) (by assumption) ?rest29
      case hy29 => (intro w hSw; (try dsimp only at hSw); go_simp; try with_reducible rfl)
      try simp only [Act.put, List.setIfInBounds_toArray, List.set_cons_zero, List.set_cons_succ]
      refine takeH (i := 11) (v := undef) rfl (by kernel_rfl) (by kernel_rfl) (by kernel_rfl) (fun _ _ _ h => h) (Or.inr ⟨by rfl, rfl⟩) (by assumption) ?rest30
      try simp only [Act.put, List.setIfInBounds_toArray, List.set_cons_zero, List.set_cons_succ]
      refine takeH (i := 12) (v := undef) rfl (by kernel_rfl) (by kernel_rfl) (by kernel_rfl) (fun _ _ _ h => h) (Or.inr ⟨by rfl, rfl⟩) (by assumption) ?rest31
      try simp only [Act.put, List.setIfInBounds_toArray, List.set_cons_zero, List.set_cons_succ]
      refine takeH (i := 13) (v := undef) rfl (by kernel_rfl) (by kernel_rfl) (by kernel_rfl) (fun _ _ _ h => h) (Or.inr ⟨by rfl, rfl⟩) (by assumption) ?rest32
      try simp only [Act.put, List.setIfInBounds_toArray, List.set_cons_zero, List.set_cons_succ]
      refine takeH (i := 14) (v := undef) rfl (by kernel_rfl) (by kernel_rfl) (by kernel_rfl) (fun _ _ _ h => h) (Or.inr ⟨by rfl, rfl⟩) (by assumption) ?rest33
      try simp only [Act.put, List.setIfInBounds_toArray, List.set_cons_zero, List.set_cons_succ]
      refine takeH (i := 15) (v := ?vv34) rfl (by kernel_rfl) (by kernel_rfl) (by kernel_rfl) (fun _ _ _ h => h) (Or.inl ⟨by rfl, ?hy34⟩) (by assumption) ?rest34
      case hy34 => (intro w hSw; (try dsimp only at hSw); go_simp; try with_reducible rfl)
      try simp only [Act.put, List.setIfInBounds_toArray, List.set_cons_zero, List.set_cons_succ]
      refine wpAnyH_done (by kernel_rfl) ?_ _
      clear hHeld
      refine Ends.normal ?_
      gi_wp2
      have hw9 : wStep (linkB ws vs) (stAt st) (tg, lk) x = (tg, lk) := by unfold wStep; simp [HSX.out.1, HSX.out.2, HC.out]
      refine ⟨⟨Nat.le_refl _, fun k o hk _ => hk⟩, Chg.drew (Chg.refl _ _), ⟨v, X, ?_⟩, hB.drew⟩
      rw [HNX.out, hw9]
      exact ⟨hP.below (Below.refl _ W).drew, HX.out, hg0, hg1⟩
  case done =>
    rintro D ys W hD hys ⟨⟨v, X, hP, hX, hg0, hg1⟩, hB⟩ hK
    rw [hys] at hP hX
    have hsl : ∀ x ∈ X, ∃ p l c, x.2 = .slice p l c := fun x hx => by obtain ⟨p, c, e⟩ := row_slice (hP.ln.each x hx); exact ⟨p, _, c, e⟩
    have e2 := hP.c2
    have hnn : 1 ≤ 6 - 1 := by omega
    have HX : Hid (X.map (fun x => x.1) = (walkS (linkB ws vs) (stAt st) t (up ps t)).2.map (mkL ws vs)) := hX
    clear hX
    rcases hP.ln.row.2 with ⟨rfl, hn⟩ | ⟨gX, capX, cur, rfl, hbX, hgX, _⟩
    · have hX0 : X = [] := List.length_eq_zero_iff.1 hn
      gi_wp2_with (gi_at_call 122; refine (callsIn_wide.2 (reverse_nil _)).mono ?_; rintro e w' ⟨rfl, rfl⟩)
      refine ⟨by simp, .inl ⟨_, _, rfl, run_takeDeferred hK, ?_⟩⟩
      refine ⟨_, results_tmp rfl _ _ _, ⟨_, [], rfl, LinksAt.nil _ _, ?_⟩, hB.trans (belowK_b (w := w) (Nat.le_refl _) _ D _ _ (by omega) hK rfl rfl)⟩
      have h1 := HX.out
      rw [hX0] at h1
      rw [List.map_reverse, ← h1]; rfl
    · have hrv := reverse_at W0.heap.size gX capX X W hP.ln.row hsl
      have hgw : w.heap.size + 1 + 1 ≠ gX := by omega
      gi_wp2_with (gi_at_call 122; refine (callsIn_wide.2 hrv).mono ?_; rintro e w5 ⟨rfl, hrow5, hc5⟩; have e5 : w5.cell? ⟨w.heap.size + 1 + 1, 0, none⟩ = some (.slice (some ⟨gX, 0, none⟩) X.length capX) := hc5.cell e2 hgw)
      have hDg : D ≠ gX := fun e => by rw [e, hgX] at hK; cases hK
      have hK5 : w5.heap[D]? = some (.deferred (some [])) := (hc5.block D (Array.getElem?_eq_some_iff.1 hK).1 hDg).trans hK
      refine ⟨by simp, .inl ⟨_, _, rfl, run_takeDeferred hK5, ?_⟩⟩
      have hB5 : Below w.heap.size w w5 := hB.trans (hc5.below hB.size (fun k hk e => by omega))
      have hnx : ∀ x ∈ X, ∀ k, x.2.ownBlock = some k → ¬ k = gX := fun x hx k hk e => by
        obtain ⟨cu, hcu⟩ := row_type (row_low (hP.ln.each x hx)) hk
        rw [e, hgX] at hcu
        simp at hcu
      have hL5 : LinksAt w5 W0.heap.size (.slice (some ⟨gX, 0, none⟩) X.length capX) X.reverse := ⟨by rw [List.length_reverse]; exact hrow5, fun x hx => hc5.row (hP.ln.each x (List.mem_reverse.1 hx)) (hnx x (List.mem_reverse.1 hx)), by rw [List.pairwise_reverse]; exact hP.ln.apart.imp (fun h k h1 h2 => h k h2 h1)⟩
      refine ⟨_, results_tmp rfl _ _ _, ⟨_, X.reverse, rfl, (hL5.grown (grownBy_putObj' _ _ _) (fun r e => by cases e; exact ⟨_, hK5, rfl⟩)).lower (by omega), ?_⟩, hB5.trans (belowK_b (w := w) (Nat.le_refl _) _ D _ _ (by omega) hK5 rfl rfl)⟩
      rw [List.map_reverse, HX.out, List.map_reverse]
  case stop =>
    rintro D c pre W hD hpre ⟨hfl, hB⟩ hK
    exact hfl.elim
end Go.Proofs.YtgebcnnenhgkcaaGreat
